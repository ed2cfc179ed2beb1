import copy
import unittest
from fractions import Fraction

import samples
from samples import COUNTS, of, row_of
from surebook.errors import NoText
from surebook.texts import read, shown

LETTERS = "abcdefghijklmnopqrstuvwxyz"
LONG = 10 ** 30 - 1
WORLDS = "worlds a b c"
FINE = "offer 1 2 3"
BOOK = """worlds rain sun
offer 1 0 ask 1/2 bid 1/3
offer -5/2 7 bid 3 if sun
offer 0 0"""


def some_names(chance, count):
    """Names of worlds, no two alike, words of the rows among them."""
    names = ["ask", "bid", "if", "offer", "worlds", "a", "z", "abcdefgh", "zzzzzzzz"]
    names += ["".join(chance.choices(LETTERS, k=chance.randint(2, 8))) for turn in range(30)]
    return chance.sample(sorted(set(names)), count)


def some_price(chance):
    return chance.choice([None, of(samples.some_fraction(chance))])


def some_offer(chance, count):
    event = chance.choice([None, tuple(range(count)), (chance.randrange(count),), samples.some_event(chance, count)])
    return (samples.some_row(chance, count), some_price(chance), some_price(chance), event)


def word(one):
    """The ratio as a word, by way of Fraction."""
    return str(Fraction(*one))


def row_text(names, offer):
    row, ask, bid, event = offer
    words = ["offer", *map(word, row)]
    words += [] if ask is None else ["ask", word(ask)]
    words += [] if bid is None else ["bid", word(bid)]
    words += [] if event is None else ["if", *[names[world] for world in event]]
    return " ".join(words)


def text_of(names, offers):
    return "\n".join(["worlds " + " ".join(names)] + [row_text(names, offer) for offer in offers])


class Reading(unittest.TestCase):
    def is_read(self, text, names, offers):
        told = read(text)
        self.assertIs(type(told), tuple)
        self.assertEqual(len(told), 2)
        self.assertIs(type(told[0]), list)
        self.assertIs(type(told[1]), list)
        self.assertEqual(told, (names, offers))
        self.assertEqual(read(text), told)
        for offer in told[1]:
            self.assertIs(type(offer), tuple)
            self.assertTrue(samples.is_row(offer[0], len(names)))
            self.assertTrue(offer[3] is None or type(offer[3]) is tuple)

    def is_bad(self, text, at):
        with self.subTest(text=text):
            for turn in range(2):
                with self.assertRaises(NoText) as refusal:
                    read(text)
                self.assertIs(type(refusal.exception.at), int)
                self.assertEqual(refusal.exception.at, at)

    def row_0_is_bad(self, *rows):
        for row in rows:
            self.is_bad(row, 0)
            self.is_bad(row + "\n" + FINE, 0)

    def rows_are_bad(self, *rows):
        for row in rows:
            self.is_bad(WORLDS + "\n" + row, 1)
            self.is_bad("\n".join([WORLDS, row, FINE]), 1)
            self.is_bad("\n".join([WORLDS, FINE, FINE, row]), 3)

    def ends_are_bad(self, *ends):
        self.rows_are_bad(*[f"{FINE} {end}" for end in ends])


class ReadBooks(Reading):
    def test_by_hand(self):
        offers = [
            (row_of(1, 0), (1, 2), (1, 3), None),
            (row_of("-5/2", 7), None, (3, 1), (1,)),
            (row_of(0, 0), None, None, None),
        ]
        self.is_read(BOOK, ["rain", "sun"], offers)

    def test_no_offers(self):
        self.is_read("worlds a b", ["a", "b"], [])
        for count in COUNTS:
            self.is_read("worlds " + " ".join(LETTERS[:count]), list(LETTERS[:count]), [])

    def test_some_books(self):
        chance = samples.chances()
        for count in COUNTS:
            for many in (0, 1, 5, 12):
                names = some_names(chance, count)
                offers = [some_offer(chance, count) for turn in range(many)]
                self.is_read(text_of(names, offers), names, offers)

    def test_ask_or_bid_or_both_missing(self):
        for words, ask, bid in (
            ("", None, None), (" ask 1", (1, 1), None), (" bid 1/2", None, (1, 2)), (" ask -1 bid 0", (-1, 1), (0, 1)),
        ):
            for end, event in (("", None), (" if b", (1,))):
                self.is_read(f"{WORLDS}\n{FINE}{words}{end}", ["a", "b", "c"], [(row_of(1, 2, 3), ask, bid, event)])

    def test_events(self):
        for names, event in (("a", (0,)), ("c", (2,)), ("a c", (0, 2)), ("b c", (1, 2)), ("a b c", (0, 1, 2))):
            self.is_read(f"{WORLDS}\n{FINE} if {names}", ["a", "b", "c"], [(row_of(1, 2, 3), None, None, event)])

    def test_worlds_that_are_called_like_the_words(self):
        names = ["ask", "bid", "if", "offer", "worlds"]
        row = row_of(1, 2, 3, 4, 5)
        for behind, offer in (
            ("if if", (row, None, None, (2,))),
            ("if ask bid", (row, None, None, (0, 1))),
            ("if ask bid if offer worlds", (row, None, None, (0, 1, 2, 3, 4))),
            ("ask 1 if ask", (row, (1, 1), None, (0,))),
            ("ask 1 bid 2 if bid if", (row, (1, 1), (2, 1), (1, 2))),
            ("bid 2 if offer worlds", (row, None, (2, 1), (3, 4))),
        ):
            self.is_read(f"worlds ask bid if offer worlds\noffer 1 2 3 4 5 {behind}", names, [offer])

    def test_a_world_called_if_ahead_of_others(self):
        row = row_of(1, 2)
        self.is_read("worlds if ask\noffer 1 2 if if ask", ["if", "ask"], [(row, None, None, (0, 1))])
        self.is_read("worlds ask if\noffer 1 2 if ask if", ["ask", "if"], [(row, None, None, (0, 1))])
        self.is_bad("worlds if ask\noffer 1 2 if ask 1", 1)
        self.is_bad("worlds if ask\noffer 1 2 if ask if", 1)
        self.is_bad("worlds if ask\noffer 1 2 if if if", 1)

    def test_twelve_worlds_with_twelve_offers_of_thirty_figures(self):
        chance = samples.chances()
        names = some_names(chance, 12)

        def long_ratio():
            return of(Fraction(chance.randint(-LONG, LONG), chance.randint(1, LONG)))

        offers = []
        for turn in range(12):
            row = tuple(long_ratio() for world in range(12))
            offers.append((row, long_ratio(), long_ratio(), tuple(range(12))))
        text = text_of(names, offers)
        self.assertLess(len(text), 20000)
        self.is_read(text, names, offers)

    def test_told_lists_are_the_askers_own(self):
        first = read(BOOK)
        right = copy.deepcopy(first)
        first[0].append("more")
        first[1].clear()
        self.assertEqual(read(BOOK), right)


class BadNames(Reading):
    def test_no_signs(self):
        self.is_bad("", 0)

    def test_line_ends_alone(self):
        self.is_bad("\n", 0)
        self.is_bad("\n" + WORLDS, 0)

    def test_too_few_and_too_many_names(self):
        self.row_0_is_bad("worlds", "worlds a", "worlds " + " ".join(LETTERS[:13]), "worlds " + " ".join(LETTERS))

    def test_names_alike(self):
        self.row_0_is_bad("worlds a a", "worlds a b a", "worlds a b c c", "worlds worlds worlds")

    def test_names_of_nine_letters(self):
        self.row_0_is_bad("worlds a abcdefghi", "worlds abcdefghi a")
        self.assertEqual(read("worlds a abcdefgh"), (["a", "abcdefgh"], []))

    def test_names_of_other_signs(self):
        self.row_0_is_bad("worlds a B", "worlds a b1", "worlds a 1", "worlds a-b c", "worlds a b;", "worlds a {")
        self.row_0_is_bad("worlds ` a", "worlds a, b", "worlds a ~")

    def test_another_first_word(self):
        self.row_0_is_bad("world a b", "Worlds a b", "worldsa b", "a b", "offer 1 2", FINE, "worldss a b", "books a b")

    def test_blanks(self):
        self.row_0_is_bad(" worlds a b", "worlds a b ", "worlds  a b", "worlds a  b", "worlds ", " ", "worlds a ")

    def test_a_name_over_two_rows(self):
        self.is_bad("worlds\na b", 0)
        self.is_bad("worlds a\nb", 0)


class BadOffers(Reading):
    def test_a_line_end_behind_the_last_row(self):
        self.is_bad(WORLDS + "\n", 1)
        self.is_bad("\n".join([WORLDS, FINE, ""]), 2)
        self.is_bad("\n".join([WORLDS] + [FINE] * 12 + [""]), 13)
        self.is_bad(WORLDS + "\n\n" + FINE, 1)

    def test_a_fourteenth_row(self):
        self.assertEqual(len(read("\n".join([WORLDS] + [FINE] * 12))[1]), 12)
        for more in (1, 2, 9):
            self.is_bad("\n".join([WORLDS] + [FINE] * (12 + more)), 13)
        for last in ("", "offer", "bad", WORLDS):
            self.is_bad("\n".join([WORLDS] + [FINE] * 12 + [last]), 13)

    def test_another_first_word(self):
        self.rows_are_bad("", "offers 1 2 3", "Offer 1 2 3", "1 2 3", "1 1 2 3", "worlds a b c", "ask 1 2 3", "offer")

    def test_too_few_and_too_many_ratios(self):
        self.rows_are_bad("offer 1", "offer 1 2", "offer 1 2 3 4", "offer 1 2 ask 3", "offer 1 2 3 4 ask 3")
        self.rows_are_bad("offer 1 2 if a", "offer if a", "offer ask 1", "offer ask 1 bid 2")
        self.ends_are_bad("ask 4 5", "bid 4 5", "ask 4 bid 5 6")

    def test_words_that_are_no_ratios(self):
        for bad in ("2/4", "3/1", "0/5", "1/-2", "+1", "-0", "00", "01", "x", "a", "1" * 31, "1/" + "7" * 31):
            self.rows_are_bad(f"offer {bad} 2 3", f"offer 1 {bad} 3", f"offer 1 2 {bad}")
            self.ends_are_bad(f"ask {bad}", f"bid {bad}", f"ask {bad} bid 1", f"ask 1 bid {bad}", f"ask {bad} if a")

    def test_bid_ahead_of_ask(self):
        self.ends_are_bad("bid 1 ask 2", "bid 1 ask 2 if a")

    def test_words_without_their_ratio(self):
        self.ends_are_bad("ask", "bid", "ask bid", "ask bid 1", "ask 1 bid", "ask if a", "ask 1 bid if a")

    def test_words_twice(self):
        self.ends_are_bad("ask 1 ask 1", "bid 1 bid 1", "ask 1 bid 1 ask 1", "ask 1 bid 1 bid 1")
        self.ends_are_bad("if a if b", "if if a")

    def test_other_words_behind(self):
        self.ends_are_bad("a", "ask 1 a", "ask 1 bid 2 a", "ask 1 a b", "price 1", "Ask 1", "sell 1")
        self.ends_are_bad("ask 1 offer 1 2 3", "offer 1 2 3", "worlds a b c")

    def test_if_ahead_of_a_price(self):
        self.ends_are_bad("if a ask 1", "if a bid 1", "ask 1 if a bid 1")

    def test_if_without_a_name(self):
        self.ends_are_bad("if", "ask 1 if", "ask 1 bid 2 if", "if ")

    def test_names_behind_if(self):
        self.ends_are_bad("if b a", "if a c b", "if c a", "if a a", "if a b b", "if a b a", "if a b c a")
        self.ends_are_bad("if d", "if a d", "if A", "if a 1", "if ab")

    def test_blanks(self):
        self.rows_are_bad(" offer 1 2 3", "offer 1 2 3 ", "offer  1 2 3", "offer 1  2 3", " ", "offer\t1 2 3")
        self.ends_are_bad(" ask 1", "ask  1", "ask 1 ", "ask 1  bid 1", "if  a", "if a ", "if a  b")

    def test_several_bad_rows(self):
        self.is_bad("\n".join([WORLDS, FINE, "bad", FINE, "bad"]), 2)
        self.is_bad("\n".join(["worlds a a", "bad", "bad"]), 0)
        self.is_bad("\n".join(["worlds a a"] + [FINE] * 13), 0)
        self.is_bad("\n".join([WORLDS, "bad"] + [FINE] * 12), 1)
        self.is_bad("\n".join([WORLDS] + [FINE] * 11 + ["bad", FINE, "bad"]), 12)
        self.is_bad("\n".join([WORLDS, FINE, FINE + " ", ""]), 2)

    def test_a_book_that_a_semicolon_parts(self):
        self.is_bad(f"{WORLDS}; {FINE}", 0)
        self.is_bad(f"{WORLDS}\n{FINE}; {FINE}", 1)


class Shown(Reading):
    def test_by_hand(self):
        names, offers = read(BOOK)
        self.assertEqual(shown(names, offers), BOOK)
        self.assertEqual(shown(["a", "b"], []), "worlds a b")

    def test_some_books_are_read_to_the_same(self):
        chance = samples.chances()
        for count in COUNTS:
            for many in (0, 1, 5, 12):
                names = some_names(chance, count)
                offers = [some_offer(chance, count) for turn in range(many)]
                kept = copy.deepcopy((names, offers))
                told = shown(names, offers)
                self.assertIs(type(told), str)
                self.assertEqual(told, text_of(names, offers))
                self.assertEqual(shown(names, offers), told)
                self.assertEqual((names, offers), kept)
                self.is_read(told, names, offers)

    def test_all_worlds_are_shown_with_if(self):
        offers = [(row_of(1, 2), None, None, (0, 1)), (row_of(1, 2), None, None, None)]
        self.assertEqual(shown(["a", "b"], offers), "worlds a b\noffer 1 2 if a b\noffer 1 2")
        self.is_read(shown(["a", "b"], offers), ["a", "b"], offers)

    def test_more_figures_than_are_read(self):
        long = 10 ** 40 + 1
        told = shown(["a", "b"], [(((long, 1), (1, long)), (long, 2), None, None)])
        self.assertEqual(told, f"worlds a b\noffer {long} 1/{long} ask {long}/2")
        self.is_bad(told, 1)


if __name__ == "__main__":
    unittest.main()
