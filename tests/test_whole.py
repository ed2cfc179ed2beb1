"""What holds over the whole program."""

import copy
import importlib
import inspect
import unittest

import samples
import walking
from samples import COUNTS, row_of
from surebook.books import fits, judged
from surebook.corners import corners
from surebook.desk import Desk
from surebook.errors import NoChance, NoFair, NoName, NoRatio, NoRow, NoText, SureError
from surebook.joins import joined, parting
from surebook.learning import called_off, learned, left, shares
from surebook.mixes import made, mix_of
from surebook.offers import come_to, gain, gains, sides
from surebook.prices import barred, lower, upper
from surebook.purses import Purse
from surebook.ratios import minus, parted, plus, ratio, times, under
from surebook.rows import added, covers, cut, is_weights, mean, meet, multiplied, paper_of
from surebook.solver import lie_on, loads_fit, solve
from surebook.texts import read, shown
from surebook.thinning import needless, sides_left
from surebook.words import read_ratio, show_ratio

INTERFACE = {
    "ratios": "ratio(top, bottom) plus(one, other) minus(one, other) times(one, other) parted(one, other)"
              " under(one, other)",
    "rows": "added(one, other) multiplied(row, by) covers(one, other) mean(weights, row) is_weights(row)"
            " cut(row, event) paper_of(count, event) meet(one, other)",
    "offers": "gain(offer, word) sides(offers) gains(offers) come_to(count, rows, multiples)",
    "tables": "",
    "solver": "loads_fit(loads, rows) lie_on(loads, event) solve(count, rows, event, aim)",
    "books": "fits(offers, weights) judged(count, offers)",
    "prices": "upper(count, offers, row) lower(count, offers, row) barred(count, offers)",
    "learning": "shares(count, offers, event) learned(count, offers, event, row) left(count, offers, event, weights)"
                " called_off(count, offers, event, row)",
    "thinning": "needless(count, offers, place) sides_left(count, offers)",
    "joins": "joined(one, other) parting(count, one, other)",
    "corners": "corners(count, offers)",
    "mixes": "mix_of(count, offers, weights) made(count, rows, mix)",
    "purses": "Purse(count, coin)",
    "words": "show_ratio(one) read_ratio(text)",
    "texts": "read(text) shown(names, offers)",
    "desk": "Desk()",
}
METHODS = {
    Purse: "take(row, price) coin() worst() held() worth(world) insure(offers)",
    Desk: "say(row)",
}

HALF = (1, 2)
FAIR = [
    (row_of(1, 0, 0), HALF, (1, 3), None),
    (row_of(0, 1, 0), (1, 3), (1, 4), (0, 1)),
    (row_of(2, 0, 1), (5, 1), None, (0, 1, 2)),
]
NARROW = [(row_of(1, 0, 0), (2, 3), (2, 3), None)]
BEATEN = [(row_of(1, 0, 0), (1, 3), HALF, None)]
BARRING = [(row_of(1, 0, 0), (0, 1), None, None)]
TEXT = "worlds a b c\noffer 1 0 0 ask 1/2 bid 1/3\noffer 0 1 0 bid 1/5 if a b"
ROW = row_of(4, "-1/2", "7/3")
WEIGHTS = row_of("2/5", "1/5", "2/5")


def insured(count, coin, row, offers):
    """All that is seen of a purse that is insured."""
    purse = Purse(count, coin)
    purse.take(row, HALF)
    multiples = purse.insure(offers)
    return [multiples, purse.coin(), purse.held(), purse.worst(), [purse.worth(world) for world in range(count)]]


def said(rows):
    desk = Desk()
    return [desk.say(row) for row in rows]


QUESTIONS = [
    (ratio, 6, -4), (plus, HALF, (1, 3)), (minus, HALF, (1, 3)), (times, HALF, (1, 3)), (parted, HALF, (1, 3)),
    (under, HALF, (1, 3)), (added, ROW, WEIGHTS), (multiplied, ROW, HALF), (covers, ROW, WEIGHTS), (mean, WEIGHTS, ROW),
    (is_weights, WEIGHTS), (cut, ROW, (0, 2)), (paper_of, 3, (1,)), (meet, (0, 1), (1, 2)), (gain, FAIR[0], "buy"),
    (sides, FAIR), (gains, FAIR), (come_to, 3, gains(FAIR), [HALF] * 5), (loads_fit, WEIGHTS, gains(FAIR)),
    (lie_on, WEIGHTS, (0, 1)), (solve, 3, gains(FAIR), (0, 2), ROW), (solve, 3, gains(BARRING), (0,), ROW),
    (fits, FAIR, WEIGHTS), (judged, 3, FAIR), (judged, 3, BEATEN), (upper, 3, FAIR, ROW), (lower, 3, FAIR, ROW),
    (barred, 3, BARRING), (shares, 3, FAIR, (0, 1)), (learned, 3, FAIR, (0, 1), ROW),
    (left, 3, FAIR, (0,), row_of(1, 0, 0)), (left, 3, BARRING, (0,), row_of(1, 0, 0)),
    (called_off, 3, FAIR, (0, 1), ROW), (needless, 3, FAIR, 4), (needless, 3, FAIR, 0), (sides_left, 3, FAIR),
    (joined, FAIR, NARROW), (joined, [], []), (parting, 3, FAIR, NARROW), (parting, 3, FAIR, BARRING),
    (parting, 3, FAIR, FAIR), (corners, 3, FAIR), (corners, 3, BEATEN), (mix_of, 3, FAIR, WEIGHTS),
    (mix_of, 3, BEATEN, WEIGHTS), (made, 3, [ROW, WEIGHTS], [HALF, (-3, 1)]), (insured, 3, (7, 1), ROW, FAIR),
    (show_ratio, HALF), (read_ratio, "-1/2"), (read_ratio, "2/4"), (read, TEXT), (shown, ["a", "b", "c"], FAIR),
    (said, ["book x worlds a b; offer 1 0 ask 1/2", "judge x", "thin x", "price x 1 2", "join y x x"]),
    (said, ["book x worlds a b; offer 1 0 ask 0", "learn x a for 1 2", "learn x a b for 1 2"]),
]

REFUSALS = [
    (NoRatio, ratio, 1, 0), (NoRatio, parted, HALF, (0, 1)),
    (NoFair, upper, 3, BEATEN, ROW), (NoFair, lower, 3, BEATEN, ROW), (NoFair, barred, 3, BEATEN),
    (NoFair, shares, 3, BEATEN, (0,)), (NoFair, learned, 3, BEATEN, (0,), ROW), (NoFair, learned, 3, BEATEN, (), ROW),
    (NoFair, called_off, 3, BEATEN, (0,), ROW), (NoFair, parting, 3, BEATEN, FAIR), (NoFair, parting, 3, FAIR, BEATEN),
    (NoFair, insured, 3, (7, 1), ROW, BEATEN),
    (NoFair, said, ["book x worlds a b; offer 1 0 ask 1 bid 2", "price x 1 2"]),
    (NoChance, learned, 3, BARRING, (0,), ROW), (NoChance, learned, 3, FAIR, (), ROW),
    (NoText, read, ""), (NoText, read, TEXT + "\n"), (NoText, said, ["book x "]),
    (NoRow, said, [""]), (NoRow, said, ["book x"]), (NoName, said, ["judge x"]),
]


def spoil(value):
    """Changes each list that is in the value."""
    if isinstance(value, (list, tuple)):
        for inner in value:
            spoil(inner)
    if isinstance(value, list):
        value.append("more")


def signatures(text):
    return {part.split("(")[0]: "(" + part.split("(")[1] + ")" for part in text.split(")") if part.strip()}


class Interface(unittest.TestCase):
    def test_functions_and_classes(self):
        for module, text in INTERFACE.items():
            there = importlib.import_module(f"surebook.{module}")
            for name, right in signatures(text).items():
                with self.subTest(module=module, name=name):
                    self.assertEqual(str(inspect.signature(getattr(there, name.strip()))), right)

    def test_methods(self):
        for kind, text in METHODS.items():
            made_one = kind(2, HALF) if kind is Purse else kind()
            for name, right in signatures(text).items():
                with self.subTest(kind=kind, name=name):
                    self.assertEqual(str(inspect.signature(getattr(made_one, name.strip()))), right)

    def test_every_function_of_the_interface_is_asked_here(self):
        asked = {question[0].__name__ for question in QUESTIONS}
        for module, text in INTERFACE.items():
            for name in signatures(text):
                self.assertTrue(name.strip() in asked or module in ("purses", "desk"), name)


class EachQuestion(unittest.TestCase):
    def test_nothing_handed_in_is_changed(self):
        for ask, *handed in QUESTIONS:
            with self.subTest(ask=ask.__name__):
                kept = copy.deepcopy(handed)
                ask(*handed)
                self.assertEqual(handed, kept)

    def test_asked_again_it_has_the_same_answer(self):
        first = [ask(*handed) for ask, *handed in QUESTIONS]
        again = [ask(*handed) for ask, *handed in reversed(QUESTIONS)]
        self.assertEqual(again[::-1], first)

    def test_told_lists_are_the_askers_own(self):
        for ask, *handed in QUESTIONS:
            with self.subTest(ask=ask.__name__):
                mine = copy.deepcopy(handed)
                first = ask(*mine)
                right = copy.deepcopy(first)
                spoil(first)
                self.assertEqual(mine, handed)
                self.assertEqual(ask(*mine), right)

    def test_what_is_done_behind_to_handed_lists_changes_no_answer(self):
        for ask, *handed in QUESTIONS:
            with self.subTest(ask=ask.__name__):
                mine = copy.deepcopy(handed)
                told = ask(*mine)
                right = copy.deepcopy(told)
                spoil(mine)
                self.assertEqual(told, right)


class Refusals(unittest.TestCase):
    def test_each_is_of_its_kind_alone(self):
        kinds = [NoRatio, NoFair, NoChance, NoText, NoRow, NoName]
        for kind, ask, *handed in REFUSALS:
            with self.subTest(kind=kind.__name__, ask=ask.__name__):
                kept = copy.deepcopy(handed)
                with self.assertRaises(ValueError) as refusal:
                    ask(*handed)
                self.assertIsInstance(refusal.exception, SureError)
                self.assertEqual([one for one in kinds if isinstance(refusal.exception, one)], [kind])
                self.assertEqual(handed, kept)
        self.assertEqual({kind for kind, *asked in REFUSALS}, set(kinds))

    def test_their_lists_are_the_askers_own(self):
        for kind, ask, *handed in REFUSALS:
            if kind in (NoFair, NoChance):
                with self.subTest(kind=kind.__name__, ask=ask.__name__):
                    with self.assertRaises(kind) as first:
                        ask(*handed)
                    self.assertIs(type(first.exception.multiples), list)
                    right = copy.deepcopy(first.exception.multiples)
                    spoil(first.exception.multiples)
                    with self.assertRaises(kind) as again:
                        ask(*handed)
                    self.assertEqual(again.exception.multiples, right)

    def test_a_refusal_changes_no_later_answer(self):
        before = [ask(*handed) for ask, *handed in QUESTIONS]
        for kind, ask, *handed in REFUSALS:
            self.assertRaises(kind, ask, *handed)
        self.assertEqual([ask(*handed) for ask, *handed in QUESTIONS], before)


class HandedOn(walking.Walking):
    """What one function tells is handed in to another."""

    def some_books(self):
        chance = samples.chances()
        for count in COUNTS:
            offers = samples.fair_offers(chance, samples.some_weights(chance, count), 4)
            yield (chance, count, offers)

    def test_weights(self):
        for chance, count, offers in self.some_books():
            row = samples.some_row(chance, count)
            found = [judged(count, offers)[1], upper(count, offers, row)[2], lower(count, offers, row)[2]]
            for weights in found:
                self.assertIs(fits(offers, weights), True)
                self.assertIs(is_weights(weights), True)
                self.assertIs(loads_fit(weights, gains(offers)), True)
                self.assertEqual(left(count, offers, None, weights), ("left", weights))
            self.assertEqual(mean(found[1], row), upper(count, offers, row)[0])
            self.assertEqual(mean(found[2], row), lower(count, offers, row)[0])

    def test_multiples(self):
        for chance, count, offers in self.some_books():
            row = samples.some_row(chance, count)
            price, multiples, weights = upper(count, offers, row)
            paid = added(come_to(count, gains(offers), multiples), (price,) * count)
            self.assertIs(covers(paid, row), True)
            for place in range(len(sides(offers))):
                found = needless(count, offers, place)
                if found is not None:
                    self.assertIs(covers(come_to(count, gains(offers), found), gains(offers)[place]), True)
            beaten = samples.beaten_offers(chance, count, 3)
            worst = come_to(count, gains(beaten), judged(count, beaten)[1])
            self.assertTrue(all(under((0, 1), worth) for worth in worst))

    def test_prices_of_what_is_held(self):
        for chance, count, offers in self.some_books():
            purse = Purse(count, HALF)
            row = samples.some_row(chance, count)
            purse.take(row, upper(count, offers, row)[0])
            least = plus(purse.coin(), lower(count, offers, purse.held())[0])
            sums = come_to(count, gains(offers), purse.insure(offers))
            self.assertEqual(purse.held(), added(row, sums))
            self.assertEqual(purse.worst(), least)

    def test_the_row_that_parts_two_books(self):
        row, high, low = parting(3, FAIR, NARROW)
        self.assertIs(under(high, low), True)
        self.assertEqual((upper(3, FAIR, row)[0], lower(3, NARROW, row)[0]), (high, low))
        self.assertEqual(judged(3, joined(FAIR, NARROW))[0], "beaten")
        # At these prices each of the two would deal in the row itself.
        for book in (joined(FAIR, [(row, high, None, None)]), joined(NARROW, [(row, None, low, None)])):
            self.assertEqual(judged(3, book)[0], "fair")

    def test_corners_and_mixes(self):
        found = corners(3, FAIR)
        for corner in found:
            self.assertIs(fits(FAIR, corner), True)
        mix = mix_of(3, FAIR, judged(3, FAIR)[1])
        self.assertEqual(made(3, found, mix), judged(3, FAIR)[1])
        self.assertEqual(made(3, gains(FAIR), upper(3, FAIR, ROW)[1]), come_to(3, gains(FAIR), upper(3, FAIR, ROW)[1]))

    def test_books_from_texts(self):
        names, offers = read(TEXT)
        self.assertEqual(read(shown(names, joined(offers, offers))), (names, offers + offers))
        told = upper(3, offers, ROW)[0]
        self.assertEqual(read_ratio(show_ratio(told)), told)
        desk = Desk()
        desk.say("book x " + TEXT.replace("\n", "; "))
        row = " ".join(show_ratio(worth) for worth in ROW)
        low, high = show_ratio(lower(3, offers, ROW)[0]), show_ratio(told)
        self.assertEqual(desk.say(f"price x {row}"), f"from {low} to {high}")

    def test_a_called_off_offer_at_its_price(self):
        for chance, count, offers in self.some_books():
            event, row = samples.some_event(chance, count), samples.some_row(chance, count)
            told = called_off(count, offers, event, row)
            for price in told[1:]:
                more = joined(offers, [(row, price, price, event)])
                self.assertEqual(judged(count, more)[0], "fair")
                if shares(count, more, event)[0] != (0, 1):
                    self.assertEqual(learned(count, more, event, row), (price, price))


class Promise(walking.Walking):
    def test_fair_or_beaten_never_both(self):
        chance = samples.chances()
        words = []
        for turn in range(150):
            count = chance.randint(2, 6)
            offers = samples.some_offers(chance, count, chance.randint(0, 4))
            told = judged(count, offers)
            words.append(told[0])
            row = samples.some_row(chance, count)
            if told[0] == "fair":
                self.are_fitting(told[1], count, walking.gains(offers))
                low, high = self.prices(count, offers, row)
                self.assertTrue(low <= samples.mean_under(told[1], row) <= high)
            else:
                self.gain_everywhere(count, walking.gains(offers), told[1])
                self.no_fair(count, offers, upper, row)
        self.assertGreater(words.count("fair"), 20)
        self.assertGreater(words.count("beaten"), 20)

    def test_the_sides_left_tell_the_same_prices(self):
        chance = samples.chances()
        for count in COUNTS:
            offers = samples.fair_offers(chance, samples.some_weights(chance, count), 6)
            row = samples.some_row(chance, count)
            kept = [sides(offers)[place] for place in sides_left(count, offers)]
            thin = []
            for number, word in kept:
                paper, ask, bid, event = offers[number]
                thin.append((paper, ask if word == "buy" else None, bid if word == "sell" else None, event))
            self.assertEqual(self.prices(count, thin, row), self.prices(count, offers, row))


if __name__ == "__main__":
    unittest.main()
