import unittest
from fractions import Fraction

import samples
import walking
from samples import COUNTS, row_of, worths
from surebook.solver import solve
from surebook.thinning import needless, sides_left

LITTLE = Fraction(1, 10 ** 20)
NOUGHT = (0, 1)


def books():
    """Fair books and beaten ones, some with sides told twice."""
    chance = samples.chances()
    for count in COUNTS:
        for many in (1, 3, 6):
            offers = samples.fair_offers(chance, samples.some_weights(chance, count), many)
            yield (count, offers)
            yield (count, offers + chance.sample(offers, 1) + samples.some_offers(chance, count, 1))
            yield (count, samples.beaten_offers(chance, count, many))


class Thinning(walking.Walking):
    def covered(self, count, rows, row):
        """Whether multiples of the rows cover the row, by an answer of the solver that is walked here."""
        told = solve(count, rows, None, row)
        if told[0] == "none":
            self.is_none(count, rows, None, told)
            return True
        self.is_most(count, rows, None, row, told)
        return told[1][0] <= 0

    def is_needless(self, count, offers, place):
        """Walks through the answer and tells whether the side is needless."""
        told = self.asked(needless, count, offers, place)
        rows = walking.gains(offers)
        others = rows[:place] + rows[place + 1:]
        self.assertIs(told is not None, self.covered(count, others, rows[place]))
        if told is None:
            return False
        self.are_multiples(told, len(rows))
        self.assertEqual(told[place], NOUGHT)
        for gained, worth in zip(walking.come_to(count, rows, told), worths(rows[place])):
            self.assertGreaterEqual(gained, worth)
        return True

    def places(self, count, offers):
        return range(len(walking.sides(offers)))


class Needless(Thinning):
    def test_by_hand(self):
        row = row_of(1, 0)
        offers = [(row, (1, 2), None, None), (row, (2, 3), None, None), (row, None, (1, 3), None)]
        self.assertIsNone(needless(2, offers, 0))
        self.assertEqual(needless(2, offers, 1), [(1, 1), NOUGHT, NOUGHT])
        self.assertIsNone(needless(2, offers, 2))

    def test_a_little_dearer_or_cheaper(self):
        row = row_of(1, 0)
        for moved, right in ((LITTLE, True), (Fraction(0), True), (-LITTLE, False)):
            offers = [(row, (1, 2), None, None), (row, samples.of(Fraction(1, 2) + moved), None, None)]
            self.assertIs(self.is_needless(2, offers, 1), right)

    def test_a_sum_of_others(self):
        offers = [
            (row_of(1, 0, 0), (1, 2), None, None), (row_of(0, 1, 0), (1, 3), None, None),
            (row_of(2, 3, 0), (2, 1), None, None), (row_of(2, 3, 0), (199, 100), None, None),
        ]
        self.assertTrue(self.is_needless(3, offers[:3], 2))
        self.assertFalse(self.is_needless(3, offers[:2] + offers[3:], 2))

    def test_sides_that_are_alike(self):
        for count in COUNTS:
            offers = [(row_of(*range(count)), (1, 2), None, None)] * 3
            for place in range(3):
                self.assertTrue(self.is_needless(count, offers, place))
            self.assertFalse(self.is_needless(count, offers[:1], 0))

    def test_nowhere_above_nought(self):
        for count in COUNTS:
            row = row_of(*[-world for world in range(count)])
            for offers in ([(row, NOUGHT, None, None)], [(row, (1, 1), None, None)], [(row, NOUGHT, None, ())]):
                self.assertTrue(self.is_needless(count, offers, 0))
                self.assertEqual(needless(count, offers, 0), [NOUGHT])

    def test_one_side_alone(self):
        for count in COUNTS:
            offers = [(row_of(*[int(world == 0) for world in range(count)]), (1, 2), None, None)]
            self.assertIsNone(needless(count, offers, 0))
            offers = [(row_of(*[1] * count), NOUGHT, None, None)]
            self.assertIsNone(needless(count, offers, 0))

    def test_the_others_are_beaten(self):
        row = row_of(1, 0, 0)
        offers = [(row, (1, 4), (1, 2), None), (row_of(5, -7, 9), NOUGHT, NOUGHT, (0, 2))]
        for place in (2, 3):
            self.assertTrue(self.is_needless(3, offers, place))

    def test_both_sides_of_an_offer(self):
        offers = [(row_of(1, 0, 0), (1, 2), (1, 2), None)]
        self.assertFalse(self.is_needless(3, offers, 0))
        self.assertFalse(self.is_needless(3, offers, 1))

    def test_many_books(self):
        words = []
        for count, offers in books():
            for place in self.places(count, offers):
                words.append(self.is_needless(count, offers, place))
        self.assertGreater(words.count(True), 50)
        self.assertGreater(words.count(False), 50)

    def test_by_the_corners(self):
        chance = samples.chances()
        for turn in range(25):
            count = chance.randint(2, 4)
            offers = samples.fair_offers(chance, samples.some_weights(chance, count), chance.randint(1, 3))
            rows = walking.gains(offers)
            for place, row in enumerate(rows):
                found = walking.corners(count, rows[:place] + rows[place + 1:])
                right = all(samples.mean_under(corner, row) <= 0 for corner in found)
                self.assertIs(needless(count, offers, place) is not None, right)

    def test_twelve_worlds_with_twelve_offers(self):
        chance = samples.chances()
        offers = samples.fair_offers(chance, samples.some_weights(chance, 12), 12)
        for place in self.places(12, offers):
            self.is_needless(12, offers, place)

    def test_told_lists_are_the_askers_own(self):
        offers = [(row_of(1, 0), (1, 2), None, None)] * 2
        first = needless(2, offers, 0)
        right = list(first)
        first.append("more")
        self.assertEqual(needless(2, offers, 0), right)
        again = needless(2, offers, 0)
        offers.clear()
        self.assertEqual(again, right)


class SidesLeft(Thinning):
    def right_places(self, count, rows):
        kept = list(range(len(rows)))
        for place in range(len(rows)):
            others = [other for other in kept if other != place]
            if self.covered(count, [rows[other] for other in others], rows[place]):
                kept = others
        return kept

    def walked(self, count, offers):
        told = self.asked(sides_left, count, offers)
        rows = walking.gains(offers)
        self.assertIs(type(told), list)
        self.assertTrue(all(samples.is_whole(place) for place in told))
        self.assertEqual(told, sorted(set(told)))
        self.assertEqual(told, self.right_places(count, rows))
        among = [rows[place] for place in told]
        for place, row in enumerate(among):
            self.assertFalse(self.covered(count, among[:place] + among[place + 1:], row))
        # What is left out is covered by what is left, so the same weights fit both.
        for place, row in enumerate(rows):
            self.assertTrue(place in told or self.covered(count, among, row))
        return told

    def test_by_hand(self):
        row = row_of(1, 0)
        offers = [(row, (2, 3), None, None), (row, (1, 2), (1, 3), None), (row, (3, 4), (1, 4), None)]
        self.assertEqual(self.walked(2, offers), [1, 2])

    def test_of_those_alike_the_last(self):
        for count in COUNTS:
            offers = [(row_of(*range(count)), (1, 2), None, None)] * 4
            self.assertEqual(self.walked(count, offers), [3])

    def test_multiplied_ones_too(self):
        offers = [
            (row_of(1, 0), (1, 2), None, None), (row_of(4, 0), (2, 1), None, None), (row_of(2, 0), (1, 1), None, None),
        ]
        self.assertEqual(self.walked(2, offers), [2])

    def test_no_sides(self):
        for count in COUNTS:
            self.assertEqual(self.walked(count, []), [])
            self.assertEqual(self.walked(count, [(row_of(*range(count)), None, None, None)]), [])

    def test_nowhere_above_nought(self):
        offers = [
            (row_of(0, -1), NOUGHT, None, None), (row_of(1, 0), (1, 2), None, None), (row_of(5, 5), (5, 1), None, None),
        ]
        self.assertEqual(self.walked(2, offers), [1])
        self.assertEqual(self.walked(2, offers[:1]), [])

    def test_a_beaten_book(self):
        row = row_of(1, 0, 0)
        offers = [(row_of(5, -7, 9), (1, 1), NOUGHT, None), (row, (1, 4), (1, 2), None), (row, (1, 5), None, None)]
        self.assertEqual(self.walked(3, offers), [3, 4])
        self.assertEqual(self.walked(2, [(row_of(2, 3), (1, 1), None, None), (row_of(1, 7), (1, 2), None, None)]), [1])

    def test_many_books(self):
        for count, offers in books():
            self.walked(count, offers)

    def test_the_same_corners(self):
        chance = samples.chances()
        for turn in range(25):
            count = chance.randint(2, 4)
            offers = samples.fair_offers(chance, samples.some_weights(chance, count), chance.randint(1, 3))
            rows = walking.gains(offers)
            kept = [rows[place] for place in sides_left(count, offers)]
            self.assertEqual(sorted(walking.corners(count, kept)), sorted(walking.corners(count, rows)))

    def test_twelve_worlds_with_twelve_offers(self):
        chance = samples.chances()
        self.walked(12, samples.fair_offers(chance, samples.some_weights(chance, 12), 12))

    def test_told_lists_are_the_askers_own(self):
        offers = [(row_of(1, 0), (1, 2), None, None)] * 2
        first = sides_left(2, offers)
        first.append("more")
        self.assertEqual(sides_left(2, offers), [1])


if __name__ == "__main__":
    unittest.main()
