import itertools
import unittest
from fractions import Fraction

import samples
import walking
from samples import COUNTS, row_of
from surebook.desk import Desk
from surebook.errors import NoChance, NoFair, NoName, NoRow, NoText, SureError
from surebook.learning import learned
from surebook.texts import read, shown
from surebook.thinning import sides_left

LETTERS = "abcdefghijklmnopqrstuvwxyz"
FAIR = "worlds a b c; offer 1 0 0 ask 1/2 bid 1/3; offer 0 1 0 ask 1/4 if a b"
BARRED = "worlds a b c; offer 1 0 0 ask 0"
BEATEN = "worlds a b c; offer 1 0 0 ask 1/3 bid 1/2"
OTHER = "worlds a b; offer 1 0 ask 1/2 bid 1/3"
LONGEST = " ".join(["1"] * 12)


def word(one):
    return str(samples.worth_of(one))


def words_of(row):
    return " ".join(word(one) for one in row)


def told_in_one_row(names, offers):
    return shown(names, offers).replace("\n", "; ")


def new_desk():
    """A desk on which a fair book, one with a barred world, a beaten one and one of other worlds stand."""
    desk = Desk()
    for name, text in (("fair", FAIR), ("barred", BARRED), ("beaten", BEATEN), ("other", OTHER)):
        assert desk.say(f"book {name} {text}") == "ok"
    return desk


def what_stands(desk, names=("fair", "barred", "beaten", "other", "new", "x")):
    """All that the desk answers of these books."""
    answers = []
    for name in names:
        for row in ("judge {}", "thin {}", "price {} 1 2 3", "price {} 1 2", "learn {} a for 1 2 3"):
            try:
                answers.append(desk.say(row.format(name)))
            except SureError as refusal:
                answers.append(refusal.__class__)
    return answers


class Asking(walking.Walking):
    def answer(self, desk, row):
        told = desk.say(row)
        self.assertIs(type(told), str)
        return told

    def refuses(self, kind, *rows):
        """Each row is refused so, and changes nothing."""
        for row in rows:
            with self.subTest(row=row):
                desk = new_desk()
                before = what_stands(desk)
                with self.assertRaises(SureError) as refusal:
                    desk.say(row)
                self.assertIs(type(refusal.exception), kind)
                self.assertEqual(what_stands(desk), before)

    def judged_as(self, desk, name, count, offers):
        """Walks through the answer to judge; tells its first word."""
        words = self.answer(desk, f"judge {name}").split(" ")
        self.assertEqual(self.answer(desk, f"judge {name}").split(" "), words)
        numbers = [Fraction(one) for one in words[1:]]
        self.assertEqual([str(number) for number in numbers], words[1:])
        if words[0] == "fair":
            self.are_fitting(row_of(*numbers), count, walking.gains(offers))
        else:
            self.assertEqual(words[0], "beaten")
            self.assertTrue(all(number.denominator == 1 for number in numbers))
            self.gain_everywhere(count, walking.gains(offers), [number.numerator for number in numbers])
        return words[0]

    def right_answers(self, desk, name, names, offers, chance):
        """Holds the answers about a book against what the functions tell of it."""
        count = len(names)
        row = samples.some_row(chance, count)
        event = samples.some_event(chance, count)
        called = " ".join(names[world] for world in event)
        price, learn = f"price {name} {words_of(row)}", f"learn {name} {called} for {words_of(row)}"
        places = " ".join(map(str, sides_left(count, offers)))
        self.assertEqual(self.answer(desk, f"thin {name}"), places if places else "none")
        if self.judged_as(desk, name, count, offers) == "beaten":
            for asked in (price, learn):
                with self.assertRaises(NoFair) as refusal:
                    desk.say(asked)
                self.gain_everywhere(count, walking.gains(offers), refusal.exception.multiples)
            return
        low, high = self.prices(count, offers, row)
        self.assertEqual(self.answer(desk, price), f"from {low} to {high}")
        try:
            least, greatest = learned(count, offers, event, row)
            right = f"from {word(least)} to {word(greatest)}"
        except NoChance:
            right = "never"
        self.assertEqual(self.answer(desk, learn), right)


class Answers(Asking):
    def test_by_hand(self):
        desk = Desk()
        self.assertEqual(desk.say("book fair worlds rain sun; offer 1 0 ask 1/2 bid 1/2"), "ok")
        self.assertEqual(desk.say("judge fair"), "fair 1/2 1/2")
        self.assertEqual(desk.say("price fair 4 -1"), "from 3/2 to 3/2")
        self.assertEqual(desk.say("thin fair"), "0 1")
        self.assertEqual(desk.say("learn fair sun for 4 -1"), "from -1 to -1")
        self.assertEqual(desk.say("book wide worlds rain sun; offer 1 0 ask 2/3 bid 1/3"), "ok")
        self.assertEqual(desk.say("price wide 4 -1"), "from 2/3 to 7/3")
        self.assertEqual(desk.say("join both wide fair"), "ok")
        self.assertEqual(desk.say("thin both"), "2 3")
        self.assertEqual(desk.say("book free worlds rain sun"), "ok")
        self.assertEqual(desk.say("thin free"), "none")
        self.assertEqual(desk.say("book dry worlds rain sun; offer 1 0 ask 0"), "ok")
        self.assertEqual(desk.say("learn dry rain for 4 -1"), "never")
        self.assertEqual(desk.say("judge dry"), "fair 0 1")

    def test_some_books(self):
        chance = samples.chances()
        desk = Desk()
        kept = {}
        for turn, count in enumerate(list(COUNTS) * 2):
            names = list(LETTERS[:count])
            chance.shuffle(names)
            offers = samples.fair_offers(chance, samples.some_weights(chance, count), chance.randint(0, 6))
            if turn % 4 == 0:
                offers = samples.beaten_offers(chance, count, 3)
            self.assertEqual(self.answer(desk, f"book n{LETTERS[turn]} {told_in_one_row(names, offers)}"), "ok")
            kept[f"n{LETTERS[turn]}"] = (names, offers)
        for turn in range(2):
            for name, (names, offers) in kept.items():
                self.right_answers(desk, name, names, offers, chance)

    def test_twelve_worlds_with_twelve_offers(self):
        chance = samples.chances()
        names = list(LETTERS[:12])
        desk = Desk()
        for offers in (
            samples.fair_offers(chance, samples.some_weights(chance, 12), 12), samples.beaten_offers(chance, 12, 12),
        ):
            self.assertEqual(self.answer(desk, f"book big {told_in_one_row(names, offers)}"), "ok")
            self.right_answers(desk, "big", names, offers, chance)

    def test_a_book_told_anew(self):
        desk = new_desk()
        self.assertEqual(self.answer(desk, f"book fair {BEATEN}"), "ok")
        self.assertEqual(desk.say("judge fair").split(" ")[0], "beaten")
        self.assertEqual(self.answer(desk, f"book fair {OTHER}"), "ok")
        self.assertEqual(self.answer(desk, "price fair 1 0"), "from 1/3 to 1/2")
        self.assertEqual(self.answer(desk, "book fair worlds x y"), "ok")
        self.assertEqual(self.answer(desk, "price fair 1 0"), "from 0 to 1")

    def test_all_figures_are_shown(self):
        desk = Desk()
        top, bottom = 10 ** 30 - 1, 10 ** 30 - 2
        desk.say("book x worlds a b; offer 1 0 ask 1/3 bid 1/3")
        right = (Fraction(top, bottom) + 2 * Fraction(bottom, top)) / 3
        self.assertGreater(len(str(right.numerator)), 30)
        self.assertEqual(self.answer(desk, f"price x {top}/{bottom} {bottom}/{top}"), f"from {right} to {right}")

    def test_names_like_the_words_of_the_rows(self):
        desk = Desk()
        for name in ("book", "judge", "price", "join", "thin", "learn", "for", "worlds", "none", "abcdefgh"):
            self.assertEqual(self.answer(desk, f"book {name} {OTHER}"), "ok")
            self.assertEqual(self.answer(desk, f"price {name} 1 0"), "from 1/3 to 1/2")
            self.assertEqual(self.answer(desk, f"thin {name}"), "0 1")
            self.assertEqual(self.answer(desk, f"learn {name} a for 1 0"), "from 1 to 1")
        self.assertEqual(self.answer(desk, "join join join join"), "ok")

    def test_two_desks_side_by_side(self):
        one, other = Desk(), Desk()
        one.say(f"book x {FAIR}")
        self.assertRaises(NoName, other.say, "judge x")
        other.say(f"book x {BEATEN}")
        self.assertEqual(one.say("judge x").split(" ")[0], "fair")
        self.assertEqual(other.say("judge x").split(" ")[0], "beaten")
        one.say("join y x x")
        self.assertRaises(NoName, other.say, "thin y")


class Joined(Asking):
    def joined(self, new, one, other):
        """A desk on which two books are joined, and what the books are then."""
        desk = new_desk()
        texts = {"fair": FAIR, "barred": BARRED, "beaten": BEATEN}
        books = {name: read(text.replace("; ", "\n")) for name, text in texts.items()}
        self.assertEqual(self.answer(desk, f"join {new} {one} {other}"), "ok")
        books[new] = (books[one][0], books[one][1] + books[other][1])
        for name, (names, offers) in books.items():
            self.right_answers(desk, name, names, offers, samples.chances())
            self.same_sides(desk, name, offers)

    def same_sides(self, desk, name, offers):
        # What is told of the multiples hangs on the order of the offers.
        told = desk.say(f"judge {name}").split(" ")
        self.assertEqual(len(told) - 1, 3 if told[0] == "fair" else len(walking.sides(offers)))

    def test_under_a_new_name(self):
        for one, other in itertools.product(("fair", "barred", "beaten"), repeat=2):
            self.joined("new", one, other)

    def test_under_the_firsts_own_name(self):
        for one, other in itertools.product(("fair", "barred", "beaten"), repeat=2):
            self.joined(one, one, other)

    def test_under_the_seconds_own_name(self):
        for one, other in itertools.product(("fair", "barred", "beaten"), repeat=2):
            self.joined(other, one, other)

    def test_the_second_behind_the_first(self):
        desk = Desk()
        desk.say("book x worlds a b; offer 1 0 ask 1/2")
        desk.say("book y worlds a b; offer 1 0 bid 1/3; offer 1 0 ask 2/3")
        desk.say("join z x y")
        self.assertEqual(desk.say("thin z"), "0 1")
        desk.say("join z y x")
        self.assertEqual(desk.say("thin z"), "0 2")

    def test_a_book_told_anew_behind(self):
        desk = new_desk()
        desk.say("join new fair barred")
        before = what_stands(desk, ["new"])
        desk.say(f"book fair {BEATEN}")
        desk.say("join barred barred beaten")
        self.assertEqual(what_stands(desk, ["new"]), before)

    def test_joined_again_and_again(self):
        desk = Desk()
        desk.say("book x worlds a b; offer 1 0 ask 1/2 bid 1/3")
        for turn in range(3):
            self.assertEqual(desk.say("join x x x"), "ok")
        self.assertEqual(desk.say("thin x"), "14 15")

    def test_a_new_book_of_other_worlds(self):
        desk = new_desk()
        self.assertEqual(desk.say("join other fair barred"), "ok")
        self.assertEqual(desk.say("judge other").split(" ")[0], "beaten")


class Learned(Asking):
    def test_worlds_that_are_called_for(self):
        desk = Desk()
        desk.say("book x worlds for a; offer 1 0 ask 1/2 bid 1/3")
        self.assertEqual(self.answer(desk, "learn x for for 5 7"), "from 5 to 5")
        self.assertEqual(self.answer(desk, "learn x a for 5 7"), "from 7 to 7")
        self.assertEqual(self.answer(desk, "learn x for a for 5 7"), "from 6 to 19/3")
        desk.say("book for worlds a for")
        self.assertEqual(self.answer(desk, "learn for for for 5 7"), "from 7 to 7")
        self.assertEqual(self.answer(desk, "learn for a for for 5 7"), "from 5 to 7")
        for row in ("learn for for 5 7", "learn x for 5 7", "learn for 5 7", "learn for for for", "learn x a for 5"):
            self.assertRaises(NoRow, desk.say, row)
        self.assertRaises(NoName, desk.say, "learn for for for for 5 7")
        self.assertRaises(NoName, desk.say, "learn x a for for 5 7")

    def test_never(self):
        desk = new_desk()
        self.assertEqual(self.answer(desk, "learn barred a for 1 2 3"), "never")
        self.assertEqual(self.answer(desk, "learn barred a b for 1 2 3"), "from 2 to 2")
        desk.say("book x worlds a b c; offer 1 1 0 ask 0")
        self.assertEqual(self.answer(desk, "learn x a b for 1 2 3"), "never")
        self.assertEqual(self.answer(desk, "learn x b for 1 2 3"), "never")
        self.assertEqual(self.answer(desk, "learn x a b c for 1 2 3"), "from 3 to 3")

    def test_a_beaten_book_is_refused_ahead_of_never(self):
        desk = new_desk()
        desk.say("join x barred beaten")
        self.assertRaises(NoFair, desk.say, "learn x a for 1 2 3")


class NoRows(Asking):
    def test_the_first_word(self):
        self.refuses(NoRow, "", " ", "x", "fair", "Judge fair", "judgefair", "judges fair", "books x", "\n", "ok")
        self.refuses(NoRow, " judge fair", "\njudge fair", "; judge fair", "price, fair 1 2 3", "worlds a b")

    def test_too_few_words(self):
        self.refuses(NoRow, "book", "judge", "price", "join", "thin")
        self.refuses(NoRow, "learn", "price fair", "price fair 1", "price x 1")
        self.refuses(NoRow, "join new", "join new fair", "learn fair")
        self.refuses(NoRow, "learn fair a", "learn fair a for", "learn fair for")
        self.refuses(NoRow, "learn fair a for 1", "learn fair for 1 2 3", "learn fair 1 2 3", "learn fair a 1 2 3")

    def test_too_many_words(self):
        self.refuses(NoRow, "judge fair fair", "thin fair 1", "thin fair fair")
        self.refuses(NoRow, "join new fair barred fair", "judge fair 1")
        self.refuses(NoRow, f"price fair {LONGEST} 1", f"learn fair a for {LONGEST} 1", f"price x {LONGEST} 1")
        names = " ".join(LETTERS[:13])
        self.refuses(NoRow, f"learn fair {names} for 1 2 3", f"learn x {names} for 1 2 3")
        self.refuses(NoRow, f"learn x {names} for {LONGEST}")

    def test_book_without_a_text(self):
        self.refuses(NoRow, "book", "book ", "book x", "book fair", "book  ", "book  worlds a b")

    def test_blanks(self):
        self.refuses(NoRow, "judge fair ", "judge  fair", "judge ")
        self.refuses(NoRow, "thin fair ", "price fair 1 2 3 ", "price  fair 1 2 3")
        self.refuses(NoRow, "price fair 1  2 3", "join new fair barred ")
        self.refuses(NoRow, "join  new fair barred", "join new  fair barred")
        self.refuses(NoRow, "learn fair a for 1 2 3 ", "learn fair a  for 1 2 3", "learn fair a for  1 2 3")
        self.refuses(NoRow, "learn fair  a for 1 2 3", "learn  fair a for 1 2 3")
        self.refuses(NoRow, f"book  x {FAIR}", f" book x {FAIR}")

    def test_line_ends(self):
        self.refuses(NoRow, "judge fair\n", "judge\nfair", "price fair 1 2 3\n", "thin fair\njudge fair")
        self.refuses(NoRow, "learn fair a for 1 2 3\n", "learn fair a\nfor 1 2 3", "join new fair\nfair")
        self.refuses(NoRow, f"book\nx {FAIR}", f"book x\n{FAIR}", f"book x\n {FAIR}")

    def test_words_that_are_no_names(self):
        for bad in ("A", "a1", "1", "abcdefghi", "x-y", "fair;", "Fair", "1/2", "-"):
            self.refuses(NoRow, f"judge {bad}", f"thin {bad}", f"price {bad} 1 2 3", f"learn {bad} a for 1 2 3")
            self.refuses(NoRow, f"join {bad} fair fair", f"join new {bad} fair", f"join new fair {bad}")
            self.refuses(NoRow, f"learn fair {bad} for 1 2 3", f"learn fair a {bad} for 1 2 3", f"book {bad} {FAIR}")

    def test_words_that_are_no_ratios(self):
        for bad in ("2/4", "3/1", "0/5", "1/-2", "+1", "-0", "00", "01", "a", "for", "", "1" * 31, "1/" + "3" * 31):
            self.refuses(NoRow, f"price fair {bad} 2 3", f"price fair 1 {bad} 3", f"price fair 1 2 {bad}")
            self.refuses(NoRow, f"learn fair a for {bad} 2 3", f"learn fair a for 1 {bad} 3")
            self.refuses(NoRow, f"learn fair a for 1 2 {bad}")
        self.refuses(NoRow, "learn fair a For 1 2 3", "learn fair a if 1 2 3", "learn fair a b 1 2 3")

    def test_ratios_that_are_not_as_many_as_worlds(self):
        self.refuses(NoRow, "price fair 1 2", "price fair 1 2 3 4", f"price fair {LONGEST}", "price other 1 2 3")
        self.refuses(NoRow, "learn fair a for 1 2", "learn fair a for 1 2 3 4", f"learn fair a for {LONGEST}")

    def test_ahead_of_a_name_that_does_not_stand(self):
        self.refuses(NoRow, "judge x y", "price x 1 a", "price x 1")
        self.refuses(NoRow, "join new x Y", "learn x a for 1", "learn x A for 1 2")
        self.refuses(NoRow, "join NEW x y", "thin x 1", "learn x for 1 2", "price x 2/4 1", "learn x a b 1 2")

    def test_in_a_beaten_book(self):
        self.refuses(NoRow, "price beaten 1 2", "learn beaten a for 1 2", "price beaten 1 2 2/4", "judge beaten 1")


class NoNames(Asking):
    def test_no_book_stands(self):
        self.refuses(NoName, "judge x", "thin x", "price x 1 2")
        self.refuses(NoName, "price x 1 2 3", f"price x {LONGEST}", "learn x a for 1 2")
        self.refuses(NoName, "join new x fair", "join new fair x", "join new x y")
        self.refuses(NoName, "join x x fair", "join fair new fair")
        self.refuses(NoName, "learn x a b c for 1 2 3", "judge worlds", "judge a", "thin fai", "thin fairs")

    def test_on_a_new_desk(self):
        for row in ("judge x", "thin x", "price x 1 2", "join x x x", "learn x a for 1 2"):
            self.assertRaises(NoName, Desk().say, row)

    def test_a_world_that_the_book_does_not_have(self):
        self.refuses(NoName, "learn fair d for 1 2 3", "learn fair a d for 1 2 3", "learn fair d a for 1 2 3")
        self.refuses(NoName, "learn fair for for 1 2 3", "learn fair a for for 1 2 3", "learn other c for 1 2")

    def test_worlds_out_of_order_or_twice(self):
        self.refuses(NoName, "learn fair b a for 1 2 3", "learn fair a c b for 1 2 3", "learn fair c a for 1 2 3")
        self.refuses(NoName, "learn fair a a for 1 2 3", "learn fair a b b for 1 2 3", "learn fair a b a for 1 2 3")

    def test_books_of_other_worlds(self):
        self.refuses(NoName, "join new fair other", "join new other fair")
        self.refuses(NoName, "join fair fair other", "join other fair other")
        desk = new_desk()
        for text in ("worlds a c b", "worlds b a c", "worlds a b d", "worlds a b c d", "worlds a b"):
            desk.say(f"book new {text}")
            self.assertRaises(NoName, desk.say, "join x fair new")
            self.assertRaises(NoName, desk.say, "join x new fair")

    def test_behind_ratios_that_are_not_as_many(self):
        self.refuses(NoRow, "learn fair d for 1 2", "learn fair b a for 1 2", "learn fair a a for 1 2 3 4")

    def test_ahead_of_no_fair(self):
        self.refuses(NoName, "learn beaten d for 1 2 3", "learn beaten b a for 1 2 3", "learn beaten a a for 1 2 3")

    def test_ahead_of_ratios_that_are_not_as_many(self):
        self.refuses(NoName, "price x 1 2 3 4", "learn x d for 1 2 3 4 5")


class NoTexts(Asking):
    def bad_at(self, at, *texts):
        for text in texts:
            with self.subTest(text=text):
                for name in ("fair", "new"):
                    desk = new_desk()
                    before = what_stands(desk)
                    with self.assertRaises(NoText) as refusal:
                        desk.say(f"book {name} {text}")
                    self.assertEqual(refusal.exception.at, at)
                    self.assertEqual(what_stands(desk), before)

    def test_nothing_behind_the_blank(self):
        self.bad_at(0, "", " ")

    def test_row_0(self):
        self.bad_at(0, "worlds a", "worlds a a", " worlds a b", "worlds a b ", "worlds  a b", "world a b", "; ")
        self.bad_at(0, "worlds a b;", "worlds a b;offer 1 2", "worlds a b ; offer 1 2", ";", "worlds a b;; offer 1 2")

    def test_other_rows(self):
        self.bad_at(1, "worlds a b; ", "worlds a b;  offer 1 2", "worlds a b; offer 1", "worlds a b; offer 1 2;")
        self.bad_at(1, "worlds a b; x; y", "worlds a b; offer 1 2 ; offer 1 2")
        self.bad_at(2, "worlds a b; offer 1 2; ", "worlds a b; offer 1 2; x; y")
        self.bad_at(2, "worlds a b; offer 1 2; offer 1 2 bid 1 ask 2")

    def test_a_fourteenth_row(self):
        rows = "worlds a b" + "; offer 1 2" * 12
        self.assertEqual(new_desk().say(f"book x {rows}"), "ok")
        self.bad_at(13, rows + "; offer 1 2", rows + "; ", rows + "; x; y")

    def test_a_line_end_is_a_sign_like_others(self):
        self.bad_at(0, "worlds a b\noffer 1 2", "worlds a b\n", "\nworlds a b", "worlds\na b", "\n")
        self.bad_at(0, "worlds a b\n; offer 1 2")
        self.bad_at(1, "worlds a b; offer 1 2\noffer 1 2", "worlds a b; offer 1\n2", "worlds a b; offer 1 2\n")
        self.bad_at(1, "worlds a b; \n", "worlds a b;  \noffer 1 2", "worlds a b; offer 1 2 if a\nb")
        self.bad_at(0, "worlds a b;\noffer 1 2", FAIR.replace("; ", "\n"))


class NoFairs(Asking):
    def test_with_multiples(self):
        offers = read(BEATEN.replace("; ", "\n"))[1]
        for row in ("price beaten 1 2 3", "learn beaten a for 1 2 3", "learn beaten a b c for 0 0 0"):
            self.refuses(NoFair, row)
            with self.assertRaises(NoFair) as refusal:
                new_desk().say(row)
            self.gain_everywhere(3, walking.gains(offers), refusal.exception.multiples)

    def test_judge_thin_and_join_are_not_refused(self):
        desk = new_desk()
        self.assertEqual(desk.say("judge beaten").split(" ")[0], "beaten")
        places = sides_left(3, read(BEATEN.replace("; ", "\n"))[1])
        self.assertEqual(desk.say("thin beaten"), " ".join(map(str, places)))
        self.assertEqual(desk.say("join new beaten fair"), "ok")

    def test_changed_multiples_change_nothing(self):
        desk = new_desk()
        told = desk.say("judge beaten")
        with self.assertRaises(NoFair) as refusal:
            desk.say("price beaten 1 2 3")
        refusal.exception.multiples.clear()
        self.assertEqual(desk.say("judge beaten"), told)
        with self.assertRaises(NoFair) as refusal:
            desk.say("price beaten 1 2 3")
        self.assertEqual(len(refusal.exception.multiples), 2)


if __name__ == "__main__":
    unittest.main()
