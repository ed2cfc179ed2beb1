import copy
import itertools
import unittest
from fractions import Fraction

import samples
import walking
from samples import COUNTS, row_of, worths
from surebook.solver import lie_on, loads_fit, solve

LITTLE = Fraction(1, 10 ** 29 + 1)
LONG = 10 ** 30 - 1


def noughts(count):
    return row_of(*[0] * count)


def turned(row):
    return row_of(*[-worth for worth in worths(row)])


def grown(row, by):
    return row_of(*[worth * by for worth in worths(row)])


def sum_of(one, other):
    return row_of(*[mine + theirs for mine, theirs in zip(worths(one), worths(other))])


def events_for(chance, count):
    return [None, tuple(range(count)), samples.some_event(chance, count), (chance.randrange(count),)]


def long_fraction(chance):
    return Fraction(chance.randint(-LONG, LONG), chance.randint(10 ** 29, LONG))


def short_fraction(chance):
    return Fraction(chance.randint(-10 ** 6, 10 ** 6), chance.randint(1, 3))


def beaten_rows(chance, count, many):
    """Rows of which the multiples 1, 2, 3 .. are known to come to a row above nought in each world."""
    rows = [samples.some_row(chance, count) for turn in range(many - 1)]
    so_far = walking.come_to(count, rows, list(range(1, many)))
    rest = [Fraction(chance.randint(1, 9), 10) - worth for worth in so_far]
    return rows + [row_of(*[worth / many for worth in rest])]


class LoadsFit(unittest.TestCase):
    def test_nought_and_a_little_beside_it(self):
        loads = row_of(Fraction(1, 3), 2)
        for by, right in ((0, True), (LITTLE, False), (-LITTLE, True), (1, False), (-1, True)):
            rows = [row_of(6, -1 + by / 2)]
            self.assertIs(loads_fit(loads, rows), right)

    def test_one_of_several_is_enough(self):
        loads = row_of(Fraction(1, 2), Fraction(1, 2))
        good, bad = row_of(1, -1), row_of(1, -1 + LITTLE)
        self.assertIs(loads_fit(loads, [good, good, good]), True)
        for place in range(4):
            rows = [good, good, good]
            rows.insert(place, bad)
            self.assertIs(loads_fit(loads, rows), False)

    def test_no_gains(self):
        for count in COUNTS:
            self.assertIs(loads_fit(noughts(count), []), True)
            self.assertIs(loads_fit(row_of(*range(count)), []), True)

    def test_loads_of_noughts(self):
        for count in COUNTS:
            self.assertIs(loads_fit(noughts(count), [row_of(*[5] * count)]), True)

    def test_by_definition(self):
        chance = samples.chances()
        for count in COUNTS:
            for turn in range(20):
                loads = row_of(*[abs(samples.some_fraction(chance)) for world in range(count)])
                rows = [samples.some_row(chance, count) for gain in range(chance.randint(1, 3))]
                self.assertIs(loads_fit(loads, rows), walking.fit(loads, rows))


class LieOn(unittest.TestCase):
    def test_none_and_all_worlds(self):
        for count in COUNTS:
            even = row_of(*[Fraction(1, count)] * count)
            for event in (None, tuple(range(count))):
                self.assertIs(lie_on(even, event), True)
                self.assertIs(lie_on(noughts(count), event), False)

    def test_no_world(self):
        for count in COUNTS:
            for loads in (noughts(count), row_of(*[1] * count), row_of(*[Fraction(1, count)] * count)):
                self.assertIs(lie_on(loads, ()), False)

    def test_a_little_more_or_less(self):
        for event in (None, (0, 2), (0, 1, 2)):
            for by, right in ((0, True), (LITTLE, False), (-LITTLE, False)):
                loads = row_of(Fraction(1, 3) + by, 0, Fraction(2, 3))
                self.assertIs(lie_on(loads, event), right)

    def test_what_lies_elsewhere_does_not_count(self):
        loads = row_of(Fraction(1, 4), 7, Fraction(3, 4), LONG)
        self.assertIs(lie_on(loads, (0, 2)), True)
        self.assertIs(lie_on(loads, (0, 1)), False)
        self.assertIs(lie_on(loads, (0,)), False)
        self.assertIs(lie_on(loads, None), False)

    def test_by_definition(self):
        for loads in itertools.product((Fraction(0), Fraction(1, 2), Fraction(1)), repeat=3):
            for event in [None, (), (0,), (1,), (2,), (0, 1), (0, 2), (1, 2), (0, 1, 2)]:
                right = sum(loads[world] for world in walking.inside(3, event)) == 1
                self.assertIs(lie_on(row_of(*loads), event), right)


class Solving(walking.Walking):
    def walked(self, count, rows, event, aim):
        told = self.asked(solve, count, rows, event, aim)
        if told[0] == "none":
            self.is_none(count, rows, event, told)
        else:
            self.is_most(count, rows, event, aim, told)
        return told

    def value(self, count, rows, event, aim):
        told = self.walked(count, rows, event, aim)
        self.assertEqual(told[0], "most")
        return samples.worth_of(told[1])

    def no_better(self, weights, rows, event, aim):
        """Asks where these weights are known to fit; "most", if they give the event a share."""
        count = len(weights)
        self.assertTrue(walking.fit(weights, rows))
        told = self.walked(count, rows, event, aim)
        given = walking.share(weights, event)
        if given > 0:
            self.assertEqual(told[0], "most")
            mean = sum(worths(weights)[world] * worths(aim)[world] for world in walking.inside(count, event))
            self.assertGreaterEqual(samples.worth_of(told[1]), mean / given)


class ByHand(Solving):
    def test_one_gain(self):
        rows = [row_of(1, -1)]
        self.assertEqual(solve(2, rows, None, row_of(4, 2)), ("most", (3, 1), ((1, 2), (1, 2)), [(1, 1)]))
        self.assertEqual(solve(2, rows, None, row_of(2, 4)), ("most", (4, 1), row_of(0, 1), [(0, 1)]))

    def test_a_gain_above_nought_everywhere(self):
        for event in (None, (0,), (1,), (0, 1)):
            self.assertEqual(self.walked(2, [row_of(Fraction(1, 3), 2)], event, row_of(5, 5))[0], "none")
        self.assertEqual(solve(2, [row_of(Fraction(1, 2), Fraction(1, 2))], None, row_of(5, 5)), ("none", [(2, 1)]))

    def test_a_gain_nowhere_below_nought(self):
        rows = [row_of(0, Fraction(1, 3))]
        self.assertEqual(solve(2, rows, (1,), row_of(1, 1)), ("none", [(3, 1)]))
        self.assertEqual(self.value(2, rows, None, row_of(-7, 100)), -7)
        self.assertEqual(self.value(2, rows, (0,), row_of(-7, 100)), -7)

    def test_what_lies_outside_may_be_needed(self):
        rows = [row_of(3, -1, 0)]
        told = self.walked(3, rows, (0, 2), row_of(5, 100, 4))
        self.assertEqual(told[1], (5, 1))
        self.assertGreaterEqual(worths(told[2])[1], 3)

    def test_no_fitting_loads_on_the_event_though_weights_fit(self):
        rows = [row_of(1, 1, 0), row_of(-1, 2, 0)]
        self.assertEqual(self.walked(3, rows, (0, 1), row_of(1, 1, 1))[0], "none")
        self.assertEqual(self.walked(3, rows, (1,), row_of(1, 1, 1))[0], "none")
        self.assertEqual(self.value(3, rows, None, row_of(9, 9, 1)), 1)

    def test_the_aim_elsewhere_does_not_count(self):
        rows = [row_of(1, -1, 2), row_of(0, 1, -3)]
        value = self.value(3, rows, (0, 1), row_of(2, 1, 7))
        for elsewhere in (-LONG, 0, LONG):
            self.assertEqual(self.value(3, rows, (0, 1), row_of(2, 1, elsewhere)), value)


class Edges(Solving):
    def test_no_gains(self):
        chance = samples.chances()
        for count in COUNTS:
            aim = samples.some_row(chance, count)
            for event in events_for(chance, count):
                right = max(worths(aim)[world] for world in walking.inside(count, event))
                self.assertEqual(self.value(count, [], event, aim), right)

    def test_no_world(self):
        chance = samples.chances()
        for count in COUNTS:
            for many in (0, 1, 3):
                rows = [samples.some_row(chance, count) for turn in range(many)]
                self.assertEqual(self.walked(count, rows, (), samples.some_row(chance, count))[0], "none")

    def test_none_is_all_worlds(self):
        chance = samples.chances()
        for count in COUNTS:
            for turn in range(5):
                rows = [samples.some_row(chance, count) for gain in range(turn)]
                aim = samples.some_row(chance, count)
                told = self.walked(count, rows, None, aim)
                same = self.walked(count, rows, tuple(range(count)), aim)
                self.assertEqual(told[0], same[0])
                self.assertEqual(told[0] == "most" and told[1], same[0] == "most" and same[1])

    def test_gains_of_noughts(self):
        for count in COUNTS:
            aim = row_of(*range(count))
            self.assertEqual(self.value(count, [noughts(count)] * 24, None, aim), count - 1)
            self.assertEqual(self.value(count, [noughts(count)] * 24, (0,), aim), 0)

    def test_aim_of_noughts(self):
        chance = samples.chances()
        for count in COUNTS:
            rows = samples.fitting_gains(chance, samples.some_weights(chance, count), 6)
            self.assertEqual(self.value(count, rows, None, noughts(count)), 0)

    def test_aim_the_same_everywhere(self):
        chance = samples.chances()
        for count in COUNTS:
            rows = samples.fitting_gains(chance, samples.some_weights(chance, count), 6)
            for worth in (Fraction(7, 3), Fraction(-1, 2)):
                self.assertEqual(self.value(count, rows, None, row_of(*[worth] * count)), worth)

    def test_values_below_nought(self):
        chance = samples.chances()
        for count in COUNTS:
            rows = samples.fitting_gains(chance, samples.some_weights(chance, count), 6)
            aim = row_of(*[-abs(samples.some_fraction(chance)) - LITTLE for world in range(count)])
            self.assertLess(self.value(count, rows, None, aim), 0)

    def test_on_the_edge(self):
        exact = [row_of(1, -1), row_of(-1, 1)]
        self.assertEqual(self.value(2, exact, None, row_of(4, 2)), 3)
        self.assertEqual(self.walked(2, exact + [row_of(LITTLE, 0)], None, row_of(4, 2))[0], "none")
        over = [row_of(1, -1 + LITTLE), row_of(-1 + LITTLE, 1)]
        self.assertEqual(self.walked(2, over, None, row_of(4, 2))[0], "none")
        below = [row_of(1, -1 - LITTLE), row_of(-1 - LITTLE, 1)]
        self.assertGreater(self.value(2, below, None, row_of(4, 2)), 3)


class Known(Solving):
    def test_weights_that_fit(self):
        chance = samples.chances()
        for count in COUNTS:
            for many in (1, 3, 12, 24):
                weights = samples.some_weights(chance, count)
                rows = samples.fitting_gains(chance, weights, many)
                for event in events_for(chance, count):
                    self.no_better(weights, rows, event, samples.some_row(chance, count))

    def test_only_these_weights_fit(self):
        chance = samples.chances()
        for count in COUNTS:
            weights = samples.some_weights(chance, count)
            papers = [row_of(*[int(world == one) for world in range(count)]) for one in range(count)]
            rows = [samples.fitting_gain(chance, weights, paper, 0) for paper in papers]
            rows += [turned(row) for row in rows]
            aim = samples.some_row(chance, count)
            self.assertEqual(self.value(count, rows, None, aim), samples.mean_under(weights, aim))
            self.assertEqual(self.walked(count, rows, None, aim)[2], weights)
            for world in range(count):
                told = self.walked(count, rows, (world,), aim)
                self.assertEqual(told[0], "most" if weights[world][0] else "none")

    def test_weights_in_one_world(self):
        chance = samples.chances()
        for count in COUNTS:
            for world in range(count):
                weights = row_of(*[int(world == one) for one in range(count)])
                rows = samples.fitting_gains(chance, weights, 8)
                self.no_better(weights, rows, None, samples.some_row(chance, count))
                self.no_better(weights, rows, (world,), samples.some_row(chance, count))

    def test_multiples_that_gain_everywhere(self):
        chance = samples.chances()
        for count in COUNTS:
            for many in (1, 2, 5, 12, 24):
                rows = beaten_rows(chance, count, many)
                self.assertTrue(all(worth > 0 for worth in walking.come_to(count, rows, list(range(1, many + 1)))))
                for event in events_for(chance, count) + [()]:
                    self.assertEqual(self.walked(count, rows, event, samples.some_row(chance, count))[0], "none")

    def test_multiples_that_gain_on_the_event_alone(self):
        chance = samples.chances()
        for count in COUNTS:
            for turn in range(5):
                event = samples.some_event(chance, count)
                rows = [worths(row) for row in beaten_rows(chance, count, 4)]
                cut = [row_of(*[row[world] * (world in event) for world in range(count)]) for row in rows]
                aim = samples.some_row(chance, count)
                self.assertEqual(self.walked(count, cut, event, aim)[0], "none")
                out = walking.outside(count, event)
                if out:
                    self.assertEqual(self.value(count, cut, None, aim), max(worths(aim)[world] for world in out))


class Alike(Solving):
    """Gains told in another way, of which the value is the same."""

    def cases(self):
        chance = samples.chances()
        for count in COUNTS:
            weights = samples.some_weights(chance, count)
            rows = samples.fitting_gains(chance, weights, 7)
            aim = samples.some_row(chance, count)
            for event in events_for(chance, count):
                if walking.share(weights, event) > 0:
                    yield (chance, count, rows, event, aim, self.value(count, rows, event, aim))

    def test_twice_the_same(self):
        for chance, count, rows, event, aim, value in self.cases():
            self.assertEqual(self.value(count, rows + rows, event, aim), value)
            self.assertEqual(self.value(count, [row for row in rows for turn in range(3)], event, aim), value)

    def test_noughts_beside(self):
        for chance, count, rows, event, aim, value in self.cases():
            more = list(rows)
            for place in (0, 3, len(rows)):
                more.insert(place, noughts(count))
            self.assertEqual(self.value(count, more, event, aim), value)

    def test_multiplied(self):
        for chance, count, rows, event, aim, value in self.cases():
            factors = [Fraction(chance.randint(1, 99), chance.randint(1, 99)) for row in rows]
            more = [grown(row, by) for row, by in zip(rows, factors)]
            self.assertEqual(self.value(count, more, event, aim), value)

    def test_in_another_order(self):
        for chance, count, rows, event, aim, value in self.cases():
            self.assertEqual(self.value(count, rows[::-1], event, aim), value)
            self.assertEqual(self.value(count, chance.sample(rows, len(rows)), event, aim), value)

    def test_sums_beside(self):
        for chance, count, rows, event, aim, value in self.cases():
            sums = [sum_of(rows[0], rows[1]), sum_of(rows[2], grown(rows[3], Fraction(1, 3))), sum_of(rows[4], rows[4])]
            self.assertEqual(self.value(count, sums + rows, event, aim), value)
            self.assertEqual(self.value(count, rows + sums, event, aim), value)

    def test_aim_multiplied_and_moved(self):
        for chance, count, rows, event, aim, value in self.cases():
            self.assertEqual(self.value(count, rows, event, grown(aim, Fraction(5, 3))), value * Fraction(5, 3))
            moved = row_of(*[worth - 40 for worth in worths(aim)])
            self.assertEqual(self.value(count, rows, event, moved), value - 40)

    def test_worlds_in_another_order(self):
        for chance, count, rows, event, aim, value in self.cases():
            def back(row):
                return row[::-1]

            there = None if event is None else tuple(sorted(count - 1 - world for world in event))
            self.assertEqual(self.value(count, [back(row) for row in rows], there, back(aim)), value)

    def test_gains_that_turn_each_other_round(self):
        chance = samples.chances()
        for count in COUNTS:
            weights = samples.some_weights(chance, count)
            rows = [samples.fitting_gain(chance, weights, slack=0) for turn in range(5)]
            both = rows + [turned(row) for row in rows]
            for event in events_for(chance, count):
                self.no_better(weights, both, event, samples.some_row(chance, count))
            told = self.walked(count, both, None, samples.some_row(chance, count))
            self.assertTrue(all(samples.mean_under(told[2], row) == 0 for row in both))


class Stalling(Solving):
    """Tables in which several columns help at once and ends are nought again and again."""

    def test_small_whole_numbers(self):
        chance = samples.chances()
        for turn in range(150):
            count, many = chance.randint(2, 12), chance.randint(1, 24)
            rows = [row_of(*[chance.choice([-1, 0, 0, 1]) for world in range(count)]) for gain in range(many)]
            aim = row_of(*[chance.choice([-1, 0, 1]) for world in range(count)])
            for event in events_for(chance, count):
                self.walked(count, rows, event, aim)

    def test_all_pairs_of_worlds(self):
        for count in (3, 4, 5):
            pairs = list(itertools.permutations(range(count), 2))
            rows = [row_of(*[(world == one) - (world == other) for world in range(count)]) for one, other in pairs]
            aim = row_of(*range(count))
            self.assertEqual(self.value(count, rows, None, aim), Fraction(count - 1, 2))
            self.assertEqual(self.value(count, rows, (0, 1), aim), Fraction(1, 2))
            self.assertEqual(self.value(count, rows[::-1], (0,), aim), 0)

    def test_a_chain_of_worlds(self):
        for count in COUNTS:
            rows = [
                row_of(*[(world == one) - 2 * (world == one + 1) for world in range(count)]) for one in range(count - 1)
            ]
            aim = row_of(*[int(world == 0) for world in range(count)])
            self.assertEqual(self.value(count, rows, None, aim), Fraction(2 ** (count - 1), 2 ** count - 1))

    def test_numbers_at_which_other_ways_go_round(self):
        rows = [
            row_of(Fraction(1, 2), Fraction(-11, 2), Fraction(-5, 2), 9),
            row_of(Fraction(1, 2), Fraction(-3, 2), Fraction(-1, 2), 1),
            row_of(Fraction(1, 4), -8, -1, 9),
            row_of(Fraction(1, 2), -12, Fraction(-1, 2), 3),
        ]
        for aim in (row_of(10, -57, -9, -24), row_of(Fraction(3, 4), -20, Fraction(1, 2), -6)):
            for event in (None, (0,), (0, 2), (3,), (1, 3)):
                for order in itertools.permutations(rows):
                    self.walked(4, list(order), event, aim)


class Sizes(Solving):
    def known_case(self, count, many, fraction, slack):
        chance = samples.chances()
        weights = samples.some_weights(chance, count)
        papers = [row_of(*[fraction(chance) for world in range(count)]) for turn in range(many)]
        rows = [samples.fitting_gain(chance, weights, paper, slack) for paper in papers]
        return (weights, rows, row_of(*[fraction(chance) for world in range(count)]))

    def test_twelve_worlds(self):
        for many in (24, 48):
            for slack in (0, 1):
                weights, rows, aim = self.known_case(12, many, short_fraction, slack)
                for event in (None, (0, 3, 4, 9), (11,)):
                    self.no_better(weights, rows, event, aim)

    def test_twelve_worlds_none(self):
        chance = samples.chances()
        for turn in range(4):
            rows = [row_of(*[short_fraction(chance) for world in range(12)]) for gain in range(24)]
            for event in (None, (2, 5), (11,)):
                self.walked(12, rows, event, row_of(*[short_fraction(chance) for world in range(12)]))

    def test_thirty_figures(self):
        for count, many in ((2, 24), (3, 24), (5, 24), (7, 12)):
            weights, rows, aim = self.known_case(count, many, long_fraction, Fraction(1, 10 ** 20))
            for event in (None, (0, count - 1)):
                self.no_better(weights, rows, event, aim)

    def long_case(self, count, many, world):
        """Gains of thirty figures, all of them below nought in one world, so that loads there alone fit."""
        chance = samples.chances()
        rows = []
        for turn in range(many):
            row = [long_fraction(chance) for one in range(count)]
            row[world] = -abs(row[world])
            rows.append(row_of(*row))
        weights = row_of(*[int(world == one) for one in range(count)])
        return (weights, rows, row_of(*[long_fraction(chance) for one in range(count)]))

    def test_thirty_figures_in_tops_and_bottoms(self):
        for count in (2, 3, 4, 6, 8):
            for world in (0, count - 1):
                weights, rows, aim = self.long_case(count, 24, world)
                self.no_better(weights, rows, None, aim)
                self.no_better(weights, rows, (0, count - 1), aim)

    def test_thirty_figures_in_tops_and_bottoms_in_twelve_worlds(self):
        weights, rows, aim = self.long_case(12, 24, 5)
        self.is_most(12, rows, None, aim, solve(12, rows, None, aim))

    def test_thirty_figures_none(self):
        chance = samples.chances()
        for count in (2, 5, 12):
            rows = [row_of(*[long_fraction(chance) for world in range(count)]) for gain in range(24)]
            self.walked(count, rows, None, row_of(*[long_fraction(chance) for world in range(count)]))

    def test_thirty_figures_in_twelve_worlds(self):
        weights, rows, aim = self.known_case(12, 24, lambda chance: Fraction(chance.randint(-LONG, LONG)), 10 ** 28)
        self.no_better(weights, rows, None, aim)
        self.no_better(weights, rows, (1, 7), aim)


class ToldLists(Solving):
    def test_they_are_the_askers_own(self):
        for rows in ([row_of(1, -1), row_of(-2, 1)], [row_of(1, 1), row_of(0, 2)]):
            first = solve(2, rows, None, row_of(3, 4))
            right = copy.deepcopy(first)
            first[-1].append("more")
            first[-1][0] = None
            self.assertEqual(solve(2, rows, None, row_of(3, 4)), right)

    def test_what_is_done_to_handed_lists_changes_nothing_told(self):
        rows = [row_of(1, -1), row_of(-2, 1)]
        told = solve(2, rows, None, row_of(3, 4))
        right = copy.deepcopy(told)
        rows.clear()
        self.assertEqual(told, right)


if __name__ == "__main__":
    unittest.main()
