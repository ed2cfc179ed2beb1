import copy
import math
import unittest
from fractions import Fraction

import samples
from surebook.errors import NoRatio
from surebook.ratios import common_bottom, least_of, minus, parted, plus, ratio, times, under, whole_by

LONG = 10 ** 200 + 7
LONGER = 3 ** 2000 * 10 ** 50

SAMPLES = [
    samples.of(fraction)
    for fraction in [
        0, 1, -1, 2, -7, Fraction(1, 2), Fraction(-1, 2), Fraction(2, 3), Fraction(-5, 6), Fraction(7, 12),
        Fraction(10 ** 30 - 1, 10 ** 29 + 1), Fraction(-(10 ** 30) + 1, 7), Fraction(1, 10 ** 30 - 1),
        Fraction(LONG, LONGER), Fraction(-LONGER, LONG), Fraction(LONGER + 1, LONGER),
    ]
]


def pairs():
    return [(one, other) for one in SAMPLES for other in SAMPLES]


class Asking(unittest.TestCase):
    def is_ratio_worth(self, told, fraction):
        self.assertTrue(samples.is_ratio(told), told)
        self.assertEqual(samples.worth_of(told), fraction)


class Ratio(Asking):
    def test_lowest_terms_for_each_sign(self):
        self.assertEqual(ratio(6, 4), (3, 2))
        self.assertEqual(ratio(-6, 4), (-3, 2))
        self.assertEqual(ratio(6, -4), (-3, 2))
        self.assertEqual(ratio(-6, -4), (3, 2))

    def test_whole_ones(self):
        self.assertEqual(ratio(5, 1), (5, 1))
        self.assertEqual(ratio(5, -1), (-5, 1))
        self.assertEqual(ratio(12, 4), (3, 1))
        self.assertEqual(ratio(-12, -12), (1, 1))
        self.assertEqual(ratio(-12, 12), (-1, 1))

    def test_already_in_lowest_terms(self):
        for told in SAMPLES:
            self.assertEqual(ratio(told[0], told[1]), told)

    def test_all_small_tops_and_bottoms(self):
        for top in range(-30, 31):
            for bottom in range(-30, 31):
                if bottom != 0:
                    self.is_ratio_worth(ratio(top, bottom), Fraction(top, bottom))

    def test_nought_whatever_the_bottom(self):
        for bottom in (1, -1, 2, -2, 5, 60, -60, 10 ** 30 - 1, -LONG, LONGER):
            self.assertEqual(ratio(0, bottom), (0, 1))

    def test_bottom_nought_is_refused(self):
        for top in (1, -1, 2, 10 ** 30 - 1, LONG, 0):
            with self.assertRaises(NoRatio):
                ratio(top, 0)

    def test_what_is_no_whole_number_is_refused(self):
        for wrong in (True, False, None, "1", 1.0, (1, 1)):
            with self.subTest(wrong=wrong):
                self.assertRaises(NoRatio, ratio, wrong, 2)
                self.assertRaises(NoRatio, ratio, 2, wrong)

    def test_long_numbers(self):
        for top in (LONG, -LONG, LONGER, LONG * LONGER, 1):
            for bottom in (LONG, -LONG, LONGER, LONG * 6, -LONGER * 9):
                self.is_ratio_worth(ratio(top, bottom), Fraction(top, bottom))
        self.assertEqual(ratio(6 * LONGER, -4 * LONGER), (-3, 2))

    def test_very_long_numbers(self):
        many = 7 ** 4000
        self.assertEqual(ratio(many * 15, many * 10), (3, 2))
        self.assertEqual(ratio(many, -(many + 1)), (-many, many + 1))


class Reckoning(Asking):
    def test_by_hand(self):
        self.assertEqual(plus((1, 6), (1, 3)), (1, 2))
        self.assertEqual(plus((1, 2), (-1, 2)), (0, 1))
        self.assertEqual(minus((1, 2), (2, 3)), (-1, 6))
        self.assertEqual(minus((5, 6), (5, 6)), (0, 1))
        self.assertEqual(times((2, 3), (-3, 4)), (-1, 2))
        self.assertEqual(times((0, 1), (-3, 4)), (0, 1))
        self.assertEqual(parted((1, 2), (3, 4)), (2, 3))
        self.assertEqual(parted((1, 2), (-3, 4)), (-2, 3))
        self.assertEqual(parted((-1, 2), (-1, 4)), (2, 1))
        self.assertEqual(parted((0, 1), (-7, 3)), (0, 1))

    def test_all_pairs(self):
        for one, other in pairs():
            mine, theirs = samples.worth_of(one), samples.worth_of(other)
            self.is_ratio_worth(plus(one, other), mine + theirs)
            self.is_ratio_worth(minus(one, other), mine - theirs)
            self.is_ratio_worth(times(one, other), mine * theirs)
            if other != (0, 1):
                self.is_ratio_worth(parted(one, other), mine / theirs)

    def test_back_again(self):
        for one, other in pairs():
            self.assertEqual(minus(plus(one, other), other), one)
            if other != (0, 1):
                self.assertEqual(parted(times(one, other), other), one)

    def test_parted_by_nought_is_refused(self):
        for one in SAMPLES:
            with self.assertRaises(NoRatio):
                parted(one, (0, 1))

    def test_many_by_chance(self):
        chance = samples.chances()
        for turn in range(500):
            mine, theirs = samples.some_fraction(chance, 40), samples.some_fraction(chance, 40)
            one, other = samples.of(mine), samples.of(theirs)
            self.is_ratio_worth(plus(one, other), mine + theirs)
            self.is_ratio_worth(minus(one, other), mine - theirs)
            self.is_ratio_worth(times(one, other), mine * theirs)
            self.assertIs(under(one, other), mine < theirs)
            if theirs != 0:
                self.is_ratio_worth(parted(one, other), mine / theirs)


class Under(unittest.TestCase):
    def test_by_hand(self):
        self.assertIs(under((1, 3), (1, 2)), True)
        self.assertIs(under((1, 2), (1, 3)), False)
        self.assertIs(under((-1, 2), (-1, 3)), True)
        self.assertIs(under((-1, 3), (-1, 2)), False)
        self.assertIs(under((-1, 2), (0, 1)), True)
        self.assertIs(under((0, 1), (-1, 2)), False)

    def test_equal_ones(self):
        for one in SAMPLES:
            self.assertIs(under(one, one), False)

    def test_all_pairs(self):
        for one, other in pairs():
            self.assertIs(under(one, other), samples.worth_of(one) < samples.worth_of(other))

    def test_very_little_between(self):
        for long in (10 ** 30 - 1, LONG, LONGER):
            less, more = (long - 1, long), (long, long + 1)
            self.assertIs(under(less, more), True)
            self.assertIs(under(more, less), False)
            self.assertIs(under((-more[0], more[1]), (-less[0], less[1])), True)
            self.assertIs(under((0, 1), (1, long)), True)
            self.assertIs(under((-1, long), (0, 1)), True)


class CommonBottom(unittest.TestCase):
    def test_by_hand(self):
        self.assertEqual(common_bottom([]), 1)
        self.assertEqual(common_bottom([(3, 1), (0, 1)]), 1)
        self.assertEqual(common_bottom([(1, 4), (-5, 6), (2, 1)]), 12)
        self.assertEqual(whole_by([(1, 4), (-5, 6), (2, 1), (0, 1)], 12), [3, -10, 24, 0])

    def test_samples(self):
        for one, other in pairs():
            bottom = common_bottom([one, other])
            self.assertEqual(bottom, math.lcm(one[1], other[1]))
            for kept, whole in zip((one, other), whole_by([one, other], bottom)):
                self.assertEqual(whole, samples.worth_of(kept) * bottom)


class LeastOf(unittest.TestCase):
    def test_by_worth_wherever_it_stands(self):
        for several in ([(1, 2), (2, 5), (3, 7)], [(2, 5), (1, 2)], [(1, 2), (2, 5)], [(2, 5), (2, 5)]):
            self.assertEqual(least_of(several), (2, 5))
        self.assertEqual(least_of([(0, 1), (-1, 3), (-1, 2)]), (-1, 2))
        self.assertEqual(least_of([(7, 3)]), (7, 3))


class AskedAgain(unittest.TestCase):
    def test_nothing_changes(self):
        for one, other in pairs():
            if other == (0, 1):
                continue
            handed = (one, other)
            kept = copy.deepcopy(handed)
            for ask in (plus, minus, times, parted, under):
                first = ask(one, other)
                self.assertEqual(ask(one, other), first)
            self.assertEqual(handed, kept)


if __name__ == "__main__":
    unittest.main()
