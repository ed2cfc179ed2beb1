import unittest
from fractions import Fraction

import samples
import walking
from samples import COUNTS, row_of, worths
from surebook.books import fits, judged

LITTLE = Fraction(1, 10 ** 29 + 1)
LONG = 10 ** 30 - 1


def long_ratio(chance):
    return samples.of(Fraction(chance.randint(-LONG, LONG), chance.randint(10 ** 29, LONG)))


class Fits(walking.Walking):
    def test_by_hand(self):
        offers = [(row_of(1, 0), (1, 2), (1, 3), None)]
        for weight, right in (("1/3", True), ("5/12", True), ("1/2", True), ("0", False), ("1", False)):
            weight = Fraction(weight)
            self.assertIs(self.asked(fits, offers, row_of(weight, 1 - weight)), right)

    def test_a_little_beside_the_edge(self):
        offers = [(row_of(1, 0), (1, 2), (1, 3), None)]
        half, third = Fraction(1, 2), Fraction(1, 3)
        for weight, right in ((half + LITTLE, False), (half - LITTLE, True), (third - LITTLE, False)):
            self.assertIs(fits(offers, row_of(weight, 1 - weight)), right)

    def test_a_little_more_or_less_than_one(self):
        for offers in ([], [(row_of(1, 0), (1, 2), (1, 3), None)]):
            self.assertIs(fits(offers, row_of(Fraction(5, 12), Fraction(7, 12))), True)
            self.assertIs(fits(offers, row_of(Fraction(5, 12), Fraction(7, 12) + LITTLE)), False)
            self.assertIs(fits(offers, row_of(Fraction(5, 12), Fraction(7, 12) - LITTLE)), False)

    def test_below_nought_in_a_world(self):
        for count in COUNTS:
            for world in range(count):
                row = [Fraction(0)] * count
                row[world] = -LITTLE
                row[world - 1] = 1 + LITTLE
                self.assertIs(fits([], row_of(*row)), False)
                self.assertIs(fits([(row_of(*[1] * count), (1, 1), None, None)], row_of(*row)), False)

    def test_noughts_and_ones(self):
        for count in COUNTS:
            self.assertIs(fits([], row_of(*[0] * count)), False)
            self.assertIs(fits([], row_of(*[1] * count)), False)

    def test_no_offers_and_no_sides(self):
        chance = samples.chances()
        for count in COUNTS:
            weights = samples.some_weights(chance, count)
            self.assertIs(fits([], weights), True)
            self.assertIs(fits([(samples.some_row(chance, count), None, None, None)], weights), True)

    def test_by_definition(self):
        chance = samples.chances()
        for count in COUNTS:
            for turn in range(20):
                offers = samples.some_offers(chance, count, chance.randint(1, 3))
                for row in (samples.some_weights(chance, count), samples.some_row(chance, count)):
                    right = walking.are_weights(row) and walking.fit(row, walking.gains(offers))
                    self.assertIs(self.asked(fits, offers, row), right)

    def test_the_weights_of_which_offers_were_made(self):
        chance = samples.chances()
        for count in COUNTS:
            weights = samples.some_weights(chance, count)
            self.assertIs(fits(samples.fair_offers(chance, weights, 12), weights), True)


class Judging(walking.Walking):
    def is_judged(self, count, offers):
        """Walks through the judgement and tells its word."""
        told = self.asked(judged, count, offers)
        self.assertIs(type(told), tuple)
        self.assertEqual(len(told), 2)
        rows = walking.gains(offers)
        if told[0] == "beaten":
            self.gain_everywhere(count, rows, told[1])
        else:
            self.assertEqual(told[0], "fair")
            self.are_fitting(told[1], count, rows)
            self.assertIs(fits(offers, told[1]), True)
        return told[0]


class Judged(Judging):
    def test_by_hand(self):
        offers = [(row_of(1, 0), (1, 3), None, None), (row_of(0, 1), (1, 2), None, None)]
        self.assertEqual(self.is_judged(2, offers), "beaten")
        offers = [(row_of(1, 0), (1, 2), None, None), (row_of(0, 1), (1, 2), None, None)]
        self.assertEqual(judged(2, offers), ("fair", ((1, 2), (1, 2))))

    def test_the_empty_book(self):
        for count in COUNTS:
            self.assertEqual(self.is_judged(count, []), "fair")
            self.assertEqual(self.is_judged(count, [(row_of(*range(count)), None, None, None)] * 12), "fair")

    def test_one_part_of_ten_to_the_twentieth(self):
        part = Fraction(1, 10 ** 20)
        for moved, right in ((0, "fair"), (-part, "beaten"), (part, "fair")):
            offers = [
                (row_of(1, 0, 0), samples.of(Fraction(1, 3) + moved), None, None),
                (row_of(0, 1, 0), (1, 3), None, None),
                (row_of(0, 0, 1), (1, 3), None, None),
            ]
            self.assertEqual(self.is_judged(3, offers), right)

    def test_a_part_moved_in_larger_books(self):
        chance = samples.chances()
        part = Fraction(1, 10 ** 20)
        for count in COUNTS:
            weights = samples.some_weights(chance, count)
            offers = [
                (row_of(*[int(world == one) for world in range(count)]), weights[one], weights[one], None)
                for one in range(count)
            ]
            self.assertEqual(self.is_judged(count, offers), "fair")
            self.assertEqual(judged(count, offers)[1], weights)
            row, ask, bid, event = offers[0]
            offers[0] = (row, samples.of(samples.worth_of(ask) - part), None, event)
            self.assertEqual(self.is_judged(count, offers), "beaten")
            offers[0] = (row, None, samples.of(samples.worth_of(bid) + part), event)
            self.assertEqual(self.is_judged(count, offers), "beaten")

    def test_gains_somewhere_loses_nowhere_and_is_fair(self):
        for count in COUNTS:
            row = row_of(*[world for world in range(count)])
            offers = [(row, (0, 1), None, None)]
            self.assertTrue(all(worth >= 0 for worth in worths(walking.gains(offers)[0])))
            self.assertEqual(judged(count, offers), ("fair", row_of(*[int(world == 0) for world in range(count)])))
            self.assertEqual(self.is_judged(count, offers), "fair")
            both = offers + [(row_of(*[1] + [0] * (count - 1)), (0, 1), None, None)]
            self.assertEqual(self.is_judged(count, both), "beaten")

    def test_called_off_deals_alone_never_beat_worlds_elsewhere(self):
        offers = [(row_of(1, 2, 3), (0, 1), (5, 1), (0, 1))]
        told = judged(3, offers)
        self.assertEqual(told, ("fair", row_of(0, 0, 1)))
        self.assertEqual(self.is_judged(3, [(row_of(1, 2, 3), (0, 1), (5, 1), (0, 1, 2))]), "beaten")
        self.assertEqual(self.is_judged(3, [(row_of(1, 2, 3), (0, 1), (5, 1), ())]), "fair")

    def test_ask_below_bid(self):
        chance = samples.chances()
        for count in COUNTS:
            for many in (1, 4, 12):
                self.assertEqual(self.is_judged(count, samples.beaten_offers(chance, count, many)), "beaten")

    def test_fair_books(self):
        chance = samples.chances()
        for count in COUNTS:
            for many in (1, 4, 12):
                for spread in (0, None):
                    offers = samples.fair_offers(chance, samples.some_weights(chance, count), many, spread)
                    self.assertEqual(self.is_judged(count, offers), "fair")

    def test_by_the_corners(self):
        chance = samples.chances()
        words = []
        for turn in range(60):
            count = chance.randint(2, 4)
            offers = samples.some_offers(chance, count, chance.randint(1, 3))
            right = "fair" if walking.corners(count, walking.gains(offers)) else "beaten"
            self.assertEqual(self.is_judged(count, offers), right)
            words.append(right)
        self.assertEqual(set(words), {"fair", "beaten"})

    def test_twelve_worlds_with_twelve_offers(self):
        chance = samples.chances()
        for turn in range(10):
            weights = samples.some_weights(chance, 12)
            self.assertEqual(self.is_judged(12, samples.fair_offers(chance, weights, 12)), "fair")
            self.is_judged(12, samples.some_offers(chance, 12, 12))

    def test_two_books_joined(self):
        chance = samples.chances()
        weights = samples.some_weights(chance, 12)
        self.assertEqual(self.is_judged(12, samples.fair_offers(chance, weights, 24)), "fair")
        self.assertEqual(self.is_judged(12, samples.beaten_offers(chance, 12, 24)), "beaten")

    def test_thirty_figures(self):
        chance = samples.chances()
        for count in (2, 4, 6):
            rows = [tuple(long_ratio(chance) for world in range(count)) for turn in range(4)]
            offers = [(row, (LONG, 1), (-LONG, 1), None) for row in rows]
            self.assertEqual(self.is_judged(count, offers), "fair")
            offers = [(row, long_ratio(chance), long_ratio(chance), None) for row in rows]
            self.is_judged(count, offers)

    def test_whole_multiples_where_little_is_gained(self):
        offers = [(row_of(1, 0), samples.of(Fraction(1, 3) - LITTLE), (1, 3), None)]
        self.assertEqual(self.is_judged(2, offers), "beaten")


class ToldLists(unittest.TestCase):
    def test_they_are_the_askers_own(self):
        offers = samples.beaten_offers(samples.chances(), 3, 3)
        first = judged(3, offers)[1]
        right = list(first)
        first.append("more")
        self.assertEqual(judged(3, offers)[1], right)
        again = judged(3, offers)[1]
        offers.clear()
        self.assertEqual(again, right)


if __name__ == "__main__":
    unittest.main()
