import unittest
from fractions import Fraction

import samples
import walking
from samples import COUNTS, of, row_of, worths
from surebook.corners import corners
from surebook.mixes import made, mix_of

SMALL = range(2, 6)
HAIR = Fraction(1, 10 ** 20)
NOUGHT = (0, 1)


def paper(count, world):
    return row_of(*[int(world == one) for one in range(count)])


def middle(one, other):
    return row_of(*[(mine + theirs) / 2 for mine, theirs in zip(worths(one), worths(other))])


def mixed(count, rows, mix):
    """What the mix makes, in Fractions."""
    parts = [[samples.worth_of(by) * worth for worth in worths(row)] for row, by in zip(rows, mix)]
    return row_of(*[sum(part[world] for part in parts) for world in range(count)])


def some_mix(chance, many):
    return [of(samples.some_fraction(chance)) for turn in range(many)]


def fair_books():
    chance = samples.chances()
    for count in SMALL:
        for many in (0, 1, 2, 5):
            for spread in (0, Fraction(1, 3), 2):
                weights = samples.some_weights(chance, count)
                yield (chance, count, samples.fair_offers(chance, weights, many, spread), weights)


class Made(walking.Walking):
    def test_by_hand(self):
        rows = [row_of(1, 0, 4), row_of(0, 3, "1/2")]
        self.assertEqual(made(3, rows, [(1, 2), (1, 2)]), row_of("1/2", "3/2", "9/4"))
        self.assertEqual(made(3, rows, [(-2, 1), (1, 3)]), row_of(-2, 1, "-47/6"))

    def test_any_list_of_as_many_ratios(self):
        chance = samples.chances()
        for count in COUNTS:
            for many in (1, 2, 7, 30):
                rows = [samples.some_row(chance, count) for turn in range(many)]
                mix = some_mix(chance, many)
                told = self.asked(made, count, rows, mix)
                self.assertTrue(samples.is_row(told, count), told)
                self.assertEqual(told, mixed(count, rows, mix))

    def test_no_rows(self):
        for count in COUNTS:
            self.assertEqual(self.asked(made, count, [], []), (NOUGHT,) * count)

    def test_one_row_whole(self):
        chance = samples.chances()
        for count in COUNTS:
            row = samples.some_row(chance, count)
            self.assertEqual(made(count, [row], [(1, 1)]), row)
            self.assertEqual(made(count, [row], [NOUGHT]), (NOUGHT,) * count)

    def test_long_ratios(self):
        long = 10 ** 30 - 1
        told = made(2, [row_of(long, Fraction(1, long)), row_of(1, 1)], [(1, long), (-1, 1)])
        self.assertEqual(told, row_of(0, Fraction(1, long ** 2) - 1))


class MixOf(walking.Walking):
    def walked(self, count, offers, weights):
        """Walks through a mix of weights that fit."""
        found = corners(count, offers)
        told = self.asked(mix_of, count, offers, weights)
        self.are_multiples(told, len(found))
        self.assertEqual(sum(worths(told)), 1)
        self.assertEqual(mixed(count, found, told), weights)
        self.assertEqual(made(count, found, told), weights)
        return told

    def test_by_hand(self):
        offers = [(row_of(1, 0), (3, 4), (1, 4), None)]
        self.assertEqual(self.walked(2, offers, row_of("1/2", "1/2")), [(1, 2), (1, 2)])
        self.assertEqual(self.walked(2, offers, row_of("1/4", "3/4")), [(1, 1), NOUGHT])
        self.assertEqual(self.walked(2, offers, row_of("2/3", "1/3")), [(1, 6), (5, 6)])

    def test_no_offers(self):
        chance = samples.chances()
        for count in SMALL:
            for turn in range(5):
                weights = samples.some_weights(chance, count)
                self.assertEqual(self.walked(count, [], weights), list(reversed(weights)))

    def test_each_corner_itself(self):
        for chance, count, offers, weights in fair_books():
            found = corners(count, offers)
            for place, corner in enumerate(found):
                right = [(1, 1) if place == other else NOUGHT for other in range(len(found))]
                self.assertEqual(self.walked(count, offers, corner), right)

    def test_halves_of_sums_of_corners(self):
        for chance, count, offers, weights in fair_books():
            found = corners(count, offers)
            for turn in range(4):
                self.walked(count, offers, middle(chance.choice(found), chance.choice(found)))

    def test_mixes_of_all_corners(self):
        for chance, count, offers, weights in fair_books():
            found = corners(count, offers)
            for turn in range(2):
                loads = [chance.randint(0, 9) for corner in found]
                loads[0] += 1
                self.walked(count, offers, mixed(count, found, [of(Fraction(load, sum(loads))) for load in loads]))

    def test_known_weights(self):
        for chance, count, offers, weights in fair_books():
            self.walked(count, offers, weights)

    def test_any_weights(self):
        words = []
        for chance, count, offers, known in fair_books():
            rows = walking.gains(offers)
            for turn in range(4):
                weights = samples.some_weights(chance, count)
                words.append(walking.fit(weights, rows))
                if words[-1]:
                    self.walked(count, offers, weights)
                else:
                    self.assertIsNone(self.asked(mix_of, count, offers, weights))
        self.assertGreater(words.count(True), 20)
        self.assertGreater(words.count(False), 20)

    def test_by_a_hair(self):
        for count in SMALL:
            offers = [(paper(count, 0), (1, 2), (1, 3), None)]
            for share, fitting in (
                (Fraction(1, 2), True), (Fraction(1, 2) + HAIR, False), (Fraction(1, 2) - HAIR, True),
                (Fraction(1, 3), True), (Fraction(1, 3) - HAIR, False), (Fraction(1, 3) + HAIR, True),
            ):
                weights = row_of(share, *[(1 - share) / (count - 1)] * (count - 1))
                if fitting:
                    self.walked(count, offers, weights)
                else:
                    self.assertIsNone(self.asked(mix_of, count, offers, weights))

    def test_one_row_alone_fits(self):
        for count in SMALL:
            weights = row_of(*[Fraction(1, count)] * count)
            offers = [(paper(count, world), weights[world], weights[world], None) for world in range(count)]
            self.assertEqual(self.walked(count, offers, weights), [(1, 1)])
            moved = row_of(worths(weights)[0] - HAIR, worths(weights)[1] + HAIR, *worths(weights)[2:])
            self.assertIsNone(self.asked(mix_of, count, offers, moved))

    def test_a_row_that_is_no_weights(self):
        offers = [(row_of(1, 0), (3, 4), (1, 4), None)]
        for row in (row_of(1, 1), row_of(0, 0), row_of(2, -1), row_of("1/2", 2), row_of("1/4", "1/2")):
            self.assertIsNone(self.asked(mix_of, 2, offers, row))
            self.assertIsNone(self.asked(mix_of, 2, [], row))

    def test_a_beaten_book(self):
        chance = samples.chances()
        for count in SMALL:
            for many in (1, 3, 5):
                offers = samples.beaten_offers(chance, count, many)
                self.assertIsNone(self.asked(mix_of, count, offers, samples.some_weights(chance, count)))

    def test_five_worlds_with_many_corners(self):
        chance = samples.chances()
        offers = [(paper(5, world), (1, 3), (1, 10), None) for world in range(5)]
        found = corners(5, offers)
        for turn in range(10):
            loads = [chance.randint(0, 9) for corner in found]
            self.walked(5, offers, mixed(5, found, [of(Fraction(load, sum(loads))) for load in loads]))

    def test_thirty_figures(self):
        chance = samples.chances()
        long = 10 ** 30 - 1
        offers = []
        for turn in range(3):
            row = [Fraction(chance.randint(-long, long), chance.randint(long // 3, long)) for world in range(4)]
            ask, bid = (max(row) * 3 + min(row)) / 4, (max(row) + min(row) * 3) / 4
            offers.append((row_of(*row), of(ask), of(bid), None))
        found = corners(4, offers)
        self.assertGreater(len(found), 3)
        self.walked(4, offers, middle(found[0], found[-1]))
        self.walked(4, offers, mixed(4, found, [of(Fraction(1, len(found)))] * len(found)))

    def test_told_lists_are_the_askers_own(self):
        offers = [(row_of(1, 0), (3, 4), (1, 4), None)]
        first = mix_of(2, offers, row_of("1/2", "1/2"))
        right = list(first)
        first.append("more")
        self.assertEqual(mix_of(2, offers, row_of("1/2", "1/2")), right)


class GreatestMean(unittest.TestCase):
    def test_no_mix_has_a_greater_one_than_the_corners(self):
        for chance, count, offers, weights in fair_books():
            found = corners(count, offers)
            row = samples.some_row(chance, count)
            means = [samples.mean_under(corner, row) for corner in found]
            mix = mix_of(count, offers, weights)
            right = sum(samples.worth_of(by) * mean for by, mean in zip(mix, means))
            self.assertEqual(samples.mean_under(weights, row), right)
            self.assertLessEqual(right, max(means))


if __name__ == "__main__":
    unittest.main()
