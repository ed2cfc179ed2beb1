import copy
import itertools
import unittest
from fractions import Fraction

import samples
from samples import COUNTS, row_of, worths
from surebook.rows import added, covers, cut, is_weights, mean, meet, multiplied, paper_of

LITTLE = Fraction(1, 10 ** 29 + 1)
NOUGHT = (0, 1)


def some_rows(count):
    chance = samples.chances()
    return [samples.some_row(chance, count) for turn in range(6)] + [row_of(*[0] * count)]


def changed(row, world, by):
    """The row with one world's worth moved."""
    moved = worths(row)
    moved[world] += by
    return row_of(*moved)


def events_of(count):
    return [
        event for size in range(count + 1) for event in itertools.combinations(range(count), size)
    ]


class Asking(unittest.TestCase):
    def is_row_of(self, told, count, fractions):
        self.assertTrue(samples.is_row(told, count), told)
        self.assertEqual(worths(told), list(fractions))


class Adding(Asking):
    def test_by_hand(self):
        self.assertEqual(added(((1, 6), (1, 2)), ((1, 3), (-1, 2))), ((1, 2), (0, 1)))

    def test_world_by_world(self):
        for count in COUNTS:
            for one, other in itertools.product(some_rows(count), repeat=2):
                both = [mine + theirs for mine, theirs in zip(worths(one), worths(other))]
                self.is_row_of(added(one, other), count, both)

    def test_long_numbers(self):
        one = row_of(10 ** 30 - 1, LITTLE, Fraction(7 ** 200, 3 ** 300))
        both = [2 * worth for worth in worths(one)]
        self.is_row_of(added(one, one), 3, both)


class Multiplying(Asking):
    def test_by_hand(self):
        self.assertEqual(multiplied(((1, 6), (-1, 2), (0, 1)), (-3, 1)), ((-1, 2), (3, 2), (0, 1)))

    def test_world_by_world(self):
        for count in COUNTS:
            for row in some_rows(count):
                for by in (Fraction(1), Fraction(-1), Fraction(6), Fraction(-2, 3), Fraction(5, 12), LITTLE):
                    self.is_row_of(multiplied(row, samples.of(by)), count, [worth * by for worth in worths(row)])

    def test_by_nought(self):
        for count in COUNTS:
            for row in some_rows(count):
                self.assertEqual(multiplied(row, NOUGHT), (NOUGHT,) * count)


class Covering(unittest.TestCase):
    def test_alike(self):
        for count in COUNTS:
            for row in some_rows(count):
                self.assertIs(covers(row, row), True)

    def test_a_little_less_or_more_in_one_world(self):
        for count in COUNTS:
            for row in some_rows(count):
                for world in range(count):
                    less = changed(row, world, -LITTLE)
                    self.assertIs(covers(row, less), True)
                    self.assertIs(covers(less, row), False)

    def test_much_more_elsewhere_does_not_help(self):
        for count in COUNTS:
            for world in range(count):
                other = row_of(*[0] * count)
                one = changed(row_of(*[1000] * count), world, -1000 - LITTLE)
                self.assertIs(covers(one, other), False)
                self.assertIs(covers(other, one), False)

    def test_more_in_each_world(self):
        for count in COUNTS:
            for row in some_rows(count):
                more = row_of(*[worth + LITTLE for worth in worths(row)])
                self.assertIs(covers(more, row), True)
                self.assertIs(covers(row, more), False)

    def test_by_definition(self):
        for count in COUNTS:
            for one, other in itertools.product(some_rows(count), repeat=2):
                told = all(mine >= theirs for mine, theirs in zip(worths(one), worths(other)))
                self.assertIs(covers(one, other), told)


class Mean(unittest.TestCase):
    def test_by_hand(self):
        self.assertEqual(mean(((1, 3), (2, 3)), ((6, 1), (-3, 2))), (1, 1))
        self.assertEqual(mean(((1, 2), (1, 2)), ((1, 1), (-1, 1))), (0, 1))

    def test_under_one_world(self):
        for count in COUNTS:
            for row in some_rows(count):
                for world in range(count):
                    self.assertEqual(mean(paper_of(count, (world,)), row), row[world])

    def mean_is_right(self, weights, row):
        told = mean(weights, row)
        self.assertTrue(samples.is_ratio(told), told)
        right = sum(weight * worth for weight, worth in zip(worths(weights), worths(row)))
        self.assertEqual(samples.worth_of(told), right)

    def test_under_weights(self):
        for count in COUNTS:
            chance = samples.chances()
            for row in some_rows(count):
                self.mean_is_right(samples.some_weights(chance, count), row)

    def test_under_rows_that_are_no_weights(self):
        for count in COUNTS:
            for weights, row in itertools.product(some_rows(count), repeat=2):
                self.assertFalse(is_weights(weights))
                self.mean_is_right(weights, row)


class Weights(unittest.TestCase):
    def test_weights(self):
        for count in COUNTS:
            chance = samples.chances()
            for turn in range(10):
                self.assertIs(is_weights(samples.some_weights(chance, count)), True)
            self.assertIs(is_weights(row_of(*[Fraction(1, count)] * count)), True)

    def test_all_in_one_world(self):
        for count in COUNTS:
            for world in range(count):
                self.assertIs(is_weights(paper_of(count, (world,))), True)

    def test_a_little_more_or_less_than_one(self):
        for count in COUNTS:
            even = row_of(*[Fraction(1, count)] * count)
            for world in range(count):
                self.assertIs(is_weights(changed(even, world, LITTLE)), False)
                self.assertIs(is_weights(changed(even, world, -LITTLE)), False)

    def test_one_below_nought_though_it_comes_to_one(self):
        for count in COUNTS:
            for world in range(count):
                behind = (world + 1) % count
                for by in (LITTLE, Fraction(1, 2), Fraction(3)):
                    row = changed(changed(row_of(*[0] * count), world, -by), behind, 1 + by)
                    self.assertEqual(sum(worths(row)), 1)
                    self.assertIs(is_weights(row), False)

    def test_noughts_and_ones(self):
        for count in COUNTS:
            self.assertIs(is_weights(row_of(*[0] * count)), False)
            self.assertIs(is_weights(row_of(*[1] * count)), False)
            self.assertIs(is_weights(row_of(*[Fraction(-1, count)] * count)), False)


class Cutting(Asking):
    def test_by_hand(self):
        row = ((1, 2), (-3, 1), (5, 6))
        self.assertEqual(cut(row, (0, 2)), ((1, 2), (0, 1), (5, 6)))
        self.assertEqual(cut(row, (1,)), ((0, 1), (-3, 1), (0, 1)))

    def test_none_no_world_all_worlds(self):
        for count in COUNTS:
            for row in some_rows(count):
                self.assertEqual(cut(row, None), row)
                self.assertEqual(cut(row, tuple(range(count))), row)
                self.assertEqual(cut(row, ()), (NOUGHT,) * count)

    def test_every_event(self):
        for count in (2, 3, 5):
            for row in some_rows(count):
                for event in events_of(count):
                    right = [worth if world in event else 0 for world, worth in enumerate(worths(row))]
                    self.is_row_of(cut(row, event), count, right)

    def test_first_and_last_world_alone(self):
        for count in COUNTS:
            row = row_of(*range(1, count + 1))
            self.is_row_of(cut(row, (0,)), count, [1] + [0] * (count - 1))
            self.is_row_of(cut(row, (count - 1,)), count, [0] * (count - 1) + [count])


class Paper(Asking):
    def test_none_no_world_all_worlds(self):
        for count in COUNTS:
            self.is_row_of(paper_of(count, None), count, [1] * count)
            self.is_row_of(paper_of(count, tuple(range(count))), count, [1] * count)
            self.is_row_of(paper_of(count, ()), count, [0] * count)

    def test_some_worlds(self):
        self.assertEqual(paper_of(3, (0, 2)), ((1, 1), (0, 1), (1, 1)))
        for count in (2, 4, 12):
            for event in events_of(count)[:300]:
                self.is_row_of(paper_of(count, event), count, [int(world in event) for world in range(count)])


class Meeting(unittest.TestCase):
    def test_by_hand(self):
        self.assertEqual(meet((0, 1, 3), (1, 2, 3)), (1, 3))
        self.assertEqual(meet((0, 11), (11,)), (11,))

    def test_either_way_round(self):
        for one, other in itertools.product(events_of(5), repeat=2):
            common = tuple(sorted(set(one) & set(other)))
            self.assertEqual(meet(one, other), common)
            self.assertEqual(meet(other, one), common)

    def test_of_an_event_and_itself(self):
        for event in events_of(12)[::37]:
            self.assertEqual(meet(event, event), event)

    def test_without_a_common_world(self):
        self.assertEqual(meet((0, 2), (1, 3)), ())
        self.assertEqual(meet((), (0, 1)), ())
        self.assertEqual(meet((0, 1), ()), ())
        self.assertEqual(meet((), ()), ())

    def test_none_on_one_side(self):
        for event in events_of(4):
            for told in (meet(None, event), meet(event, None)):
                self.assertIs(type(told), tuple)
                self.assertEqual(told, event)

    def test_none_and_none(self):
        self.assertIsNone(meet(None, None))

    def test_the_paper_of_a_meet_is_one_paper_cut_to_the_other(self):
        events = events_of(4) + [None]
        for one, other in itertools.product(events, repeat=2):
            self.assertEqual(paper_of(4, meet(one, other)), cut(paper_of(4, one), other))


class AskedAgain(unittest.TestCase):
    def asks(self, count):
        one, other = some_rows(count)[:2]
        event = tuple(range(0, count, 2))
        return [
            (added, (one, other)), (multiplied, (one, (2, 3))), (covers, (one, other)), (mean, (one, other)),
            (is_weights, (one,)), (cut, (one, event)), (paper_of, (count, event)), (meet, (event, (0, 1))),
        ]

    def test_nothing_changes(self):
        for count in COUNTS:
            asks = self.asks(count)
            kept = copy.deepcopy(asks)
            first = [ask(*handed) for ask, handed in asks]
            self.assertEqual([ask(*handed) for ask, handed in reversed(asks)], first[::-1])
            self.assertEqual(asks, kept)


if __name__ == "__main__":
    unittest.main()
