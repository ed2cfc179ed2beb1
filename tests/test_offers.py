import copy
import itertools
import unittest
from fractions import Fraction

import samples
import walking
from samples import COUNTS, row_of, worths
from surebook.offers import come_to, gain, gains, sides

NOUGHT = (0, 1)


class Gain(walking.Walking):
    def test_by_hand(self):
        offer = (((1, 2), (-3, 1), (5, 6)), (1, 3), (1, 6), None)
        self.assertEqual(gain(offer, "buy"), ((1, 6), (-10, 3), (1, 2)))
        self.assertEqual(gain(offer, "sell"), ((-1, 3), (19, 6), (-2, 3)))

    def test_called_off_elsewhere(self):
        offer = (((1, 2), (-3, 1), (5, 6)), (1, 3), (1, 6), (0, 2))
        self.assertEqual(gain(offer, "buy"), ((1, 6), NOUGHT, (1, 2)))
        self.assertEqual(gain(offer, "sell"), ((-1, 3), NOUGHT, (-2, 3)))

    def test_no_world_and_all_worlds(self):
        for count in COUNTS:
            row = samples.some_row(samples.chances(), count)
            for word in ("buy", "sell"):
                self.assertEqual(gain((row, (1, 2), (1, 3), ()), word), (NOUGHT,) * count)
                whole = gain((row, (1, 2), (1, 3), None), word)
                self.assertEqual(gain((row, (1, 2), (1, 3), tuple(range(count))), word), whole)

    def test_ask_below_bid(self):
        offer = (row_of(1, 0), (1, 4), (3, 4), None)
        buy, sell = gain(offer, "buy"), gain(offer, "sell")
        self.assertEqual(buy, row_of(Fraction(3, 4), Fraction(-1, 4)))
        self.assertEqual(sell, row_of(Fraction(-1, 4), Fraction(3, 4)))
        self.assertEqual([one + other for one, other in zip(worths(buy), worths(sell))], [Fraction(1, 2)] * 2)

    def test_one_side_alone(self):
        row = row_of(4, -4)
        self.assertEqual(gain((row, (1, 1), None, None), "buy"), row_of(3, -5))
        self.assertEqual(gain((row, None, (1, 1), None), "sell"), row_of(-3, 5))

    def test_price_nought_and_below(self):
        row = row_of(4, -4)
        self.assertEqual(gain((row, NOUGHT, NOUGHT, None), "buy"), row)
        self.assertEqual(gain((row, NOUGHT, NOUGHT, None), "sell"), row_of(-4, 4))
        self.assertEqual(gain((row, (-1, 2), (-1, 2), (1,)), "buy"), row_of(0, Fraction(-7, 2)))

    def test_each_event_of_four_worlds(self):
        row = row_of(Fraction(1, 2), Fraction(7, 6), -2, Fraction(1, 3))
        events = [event for size in range(5) for event in itertools.combinations(range(4), size)]
        for event in events + [None]:
            offer = (row, (1, 3), (1, 6), event)
            for word in ("buy", "sell"):
                told = self.asked(gain, offer, word)
                self.assertTrue(samples.is_row(told, 4), told)
                self.assertEqual(told, walking.gain(offer, word))

    def test_long_numbers(self):
        long = 10 ** 30 - 1
        offer = (row_of(Fraction(long, 7), Fraction(1, long)), (1, long - 1), (-long, 2), None)
        for word in ("buy", "sell"):
            told = gain(offer, word)
            self.assertTrue(samples.is_row(told, 2), told)
            self.assertEqual(told, walking.gain(offer, word))


class Sides(walking.Walking):
    def test_by_hand(self):
        row = row_of(1, 0)
        offers = [
            (row, (1, 2), None, None), (row, None, None, None), (row, (1, 2), (1, 3), (0,)), (row, None, (1, 3), ()),
        ]
        self.assertEqual(sides(offers), [(0, "buy"), (2, "buy"), (2, "sell"), (3, "sell")])
        right = [((1, 2), (-1, 2)), ((1, 2), NOUGHT), ((-2, 3), NOUGHT), (NOUGHT, NOUGHT)]
        self.assertEqual(gains(offers), right)

    def test_no_offers(self):
        self.assertEqual(sides([]), [])
        self.assertEqual(gains([]), [])

    def test_offers_without_sides(self):
        offers = [(row_of(1, 0), None, None, event) for event in (None, (), (1,))]
        self.assertEqual(sides(offers), [])
        self.assertEqual(gains(offers), [])

    def test_a_price_of_nought_is_a_side(self):
        self.assertEqual(sides([(row_of(1, 0), NOUGHT, NOUGHT, None)]), [(0, "buy"), (0, "sell")])

    def test_many(self):
        chance = samples.chances()
        for count in COUNTS:
            for many in (1, 5, 12, 24):
                offers = samples.some_offers(chance, count, many)
                told = self.asked(sides, offers)
                self.assertIs(type(told), list)
                self.assertEqual(told, walking.sides(offers))
                self.assertTrue(all(type(side) is tuple and samples.is_whole(side[0]) for side in told))
                rows = self.asked(gains, offers)
                self.assertIs(type(rows), list)
                self.assertTrue(all(samples.is_row(row, count) for row in rows))
                self.assertEqual(rows, [walking.gain(offers[number], word) for number, word in told])


class ComeTo(walking.Walking):
    def test_by_hand(self):
        rows = [row_of(1, -1), row_of(Fraction(-1, 2), 2)]
        self.assertEqual(come_to(2, rows, [(2, 1), (1, 3)]), row_of(Fraction(11, 6), Fraction(-4, 3)))
        self.assertEqual(come_to(2, rows, [(1, 2), (1, 1)]), row_of(0, Fraction(3, 2)))

    def test_no_gains(self):
        for count in COUNTS:
            self.assertEqual(come_to(count, [], []), (NOUGHT,) * count)

    def test_multiples_of_nought(self):
        for count in COUNTS:
            rows = [samples.some_row(samples.chances(), count)] * 3
            self.assertEqual(come_to(count, rows, [NOUGHT] * 3), (NOUGHT,) * count)

    def test_one_gain_once(self):
        chance = samples.chances()
        for count in COUNTS:
            rows = [samples.some_row(chance, count) for turn in range(5)]
            for place, row in enumerate(rows):
                multiples = [NOUGHT] * 5
                multiples[place] = (1, 1)
                self.assertEqual(come_to(count, rows, multiples), row)

    def test_many(self):
        chance = samples.chances()
        for count in COUNTS:
            for many in (1, 2, 24, 48):
                rows = [samples.some_row(chance, count) for turn in range(many)]
                multiples = [samples.of(abs(samples.some_fraction(chance))) for turn in range(many)]
                told = self.asked(come_to, count, rows, multiples)
                self.assertTrue(samples.is_row(told, count), told)
                self.assertEqual(worths(told), walking.come_to(count, rows, multiples))

    def test_whole_multiples(self):
        chance = samples.chances()
        rows = [samples.some_row(chance, 4) for turn in range(3)]
        told = self.asked(come_to, 4, rows, [3, 0, 10 ** 30 - 1])
        self.assertEqual(told, come_to(4, rows, [(3, 1), NOUGHT, (10 ** 30 - 1, 1)]))
        self.assertTrue(samples.is_row(told, 4), told)

    def test_long_numbers(self):
        long = 10 ** 30 - 1
        rows = [row_of(Fraction(long, long - 1), Fraction(-1, long)), row_of(Fraction(1, long - 3), long)]
        multiples = [(7 ** 900, 3 ** 1000), (1, 5 ** 800)]
        told = come_to(2, rows, multiples)
        self.assertTrue(samples.is_row(told, 2), told)
        self.assertEqual(worths(told), walking.come_to(2, rows, multiples))


class ToldLists(unittest.TestCase):
    def test_what_is_done_to_them_changes_no_later_answer(self):
        offers = samples.some_offers(samples.chances(), 3, 12)
        kept = copy.deepcopy(offers)
        for ask in (sides, gains):
            first = ask(offers)
            right = list(first)
            first.append("more")
            first[0] = None
            self.assertEqual(ask(offers), right)
            self.assertEqual(offers, kept)

    def test_what_is_done_to_handed_lists_changes_nothing_told(self):
        offers = samples.some_offers(samples.chances(), 3, 12)
        told = (sides(offers), gains(offers))
        kept = copy.deepcopy(told)
        rows = gains(offers)
        multiples = [(1, 2)] * len(rows)
        row = come_to(3, rows, multiples)
        right = copy.deepcopy(row)
        offers.clear()
        rows.clear()
        multiples.clear()
        self.assertEqual(told, kept)
        self.assertEqual(row, right)


if __name__ == "__main__":
    unittest.main()
