import copy
import unittest
from fractions import Fraction

import samples
import walking
from samples import COUNTS, of, row_of
from surebook.books import judged
from surebook.errors import NoFair
from surebook.joins import joined, parting
from surebook.prices import lower, upper

HAIR = Fraction(1, 10 ** 20)


def paper(count, world):
    return row_of(*[int(world == one) for one in range(count)])


def just(count, weights):
    """A book that these weights alone fit."""
    return [(paper(count, world), weights[world], weights[world], None) for world in range(count)]


def at_least(row, price):
    return (row, None, of(price), None)


def at_most(row, price):
    return (row, of(price), None, None)


class Joined(unittest.TestCase):
    def test_the_second_behind_the_first(self):
        chance = samples.chances()
        for one_many in (0, 1, 5, 12):
            for other_many in (0, 1, 5, 12):
                one, other = samples.some_offers(chance, 3, one_many), samples.some_offers(chance, 3, other_many)
                kept = copy.deepcopy((one, other))
                told = joined(one, other)
                self.assertIs(type(told), list)
                self.assertEqual(told, [*one, *other])
                self.assertEqual((one, other), kept)
                self.assertEqual(joined(one, other), told)

    def test_a_new_list(self):
        chance = samples.chances()
        for one_many, other_many in ((0, 0), (0, 2), (2, 0), (2, 3)):
            one, other = samples.some_offers(chance, 3, one_many), samples.some_offers(chance, 3, other_many)
            kept = copy.deepcopy((one, other))
            told = joined(one, other)
            told.append("more")
            self.assertEqual((one, other), kept)
            told = joined(one, other)
            right = list(told)
            one.append("more")
            other.append("more")
            self.assertEqual(told, right)

    def test_a_book_with_itself(self):
        offers = samples.some_offers(samples.chances(), 3, 2)
        told = joined(offers, offers)
        self.assertEqual(told, offers * 2)
        self.assertEqual(len(offers), 2)


class Parting(walking.Walking):
    def walked(self, count, one, other):
        """Walks through the answer; tells whether the books are parted."""
        told = self.asked(parting, count, one, other)
        if told is None:
            fair = judged(count, joined(one, other))
            self.assertEqual(fair[0], "fair")
            self.are_fitting(fair[1], count, walking.gains(one) + walking.gains(other))
            return False
        self.assertIs(type(told), tuple)
        self.assertEqual(len(told), 3)
        row, high, low = told
        self.assertTrue(samples.is_row(row, count), row)
        self.assertTrue(samples.is_ratio(high) and samples.is_ratio(low), told)
        self.assertEqual(samples.worth_of(high), self.price(upper, count, one, row))
        self.assertEqual(samples.worth_of(low), self.price(lower, count, other, row))
        self.assertLess(samples.worth_of(high), samples.worth_of(low))
        return True

    def both_ways(self, count, one, other):
        told = self.walked(count, one, other)
        self.assertIs(self.walked(count, other, one), told)
        return told

    def no_fair_of(self, count, one, other, first):
        """Refused with multiples of the book that is called first."""
        refusal = self.refused(NoFair, parting, count, one, other)
        self.gain_everywhere(count, walking.gains(first), refusal.multiples)


class TwoFairBooks(Parting):
    def test_by_hand(self):
        cheap, dear = [at_most(paper(2, 0), Fraction(1, 3))], [at_least(paper(2, 0), Fraction(1, 2))]
        self.assertTrue(self.both_ways(2, cheap, dear))
        self.assertFalse(self.both_ways(2, cheap, [at_least(paper(2, 0), Fraction(1, 4))]))
        self.assertFalse(self.both_ways(2, cheap, [at_least(paper(2, 1), Fraction(1, 2))]))

    def test_known_weights_fit_both(self):
        chance = samples.chances()
        for count in COUNTS:
            for one_many, other_many in ((1, 1), (3, 2), (6, 6)):
                weights = samples.some_weights(chance, count)
                one = samples.fair_offers(chance, weights, one_many)
                other = samples.fair_offers(chance, weights, other_many)
                self.assertFalse(self.both_ways(count, one, other))

    def test_weights_of_their_own(self):
        chance = samples.chances()
        words = []
        for count in COUNTS:
            for turn in range(4):
                one = samples.fair_offers(chance, samples.some_weights(chance, count), chance.randint(1, 8))
                other = samples.fair_offers(chance, samples.some_weights(chance, count), chance.randint(1, 8))
                words.append(self.both_ways(count, one, other))
        self.assertGreater(words.count(True), 5)
        self.assertGreater(words.count(False), 5)

    def test_by_the_corners(self):
        chance = samples.chances()
        words = []
        for turn in range(60):
            count = chance.randint(2, 4)
            one = samples.fair_offers(chance, samples.some_weights(chance, count), chance.randint(0, 3), 0)
            other = samples.fair_offers(chance, samples.some_weights(chance, count), chance.randint(0, 3), 0)
            found = walking.corners(count, walking.gains(one) + walking.gains(other))
            words.append(self.both_ways(count, one, other))
            self.assertIs(words[-1], found == [])
        self.assertGreater(words.count(True), 5)
        self.assertGreater(words.count(False), 5)

    def test_just_one_row_fits_each(self):
        chance = samples.chances()
        for count in COUNTS:
            weights = samples.some_weights(chance, count)
            full, empty = max(range(count), key=lambda world: Fraction(*weights[world])), chance.randrange(count)
            moved = list(map(samples.worth_of, weights))
            moved[full] -= HAIR
            moved[empty] += HAIR
            parted = full != empty
            self.assertIs(self.both_ways(count, just(count, weights), just(count, row_of(*moved))), parted)
            self.assertFalse(self.both_ways(count, just(count, weights), just(count, weights)))

    def test_by_a_hair(self):
        chance = samples.chances()
        for count in COUNTS:
            weights = row_of(*[Fraction(1, count)] * count)
            row = samples.some_row(chance, count)
            price = samples.mean_under(weights, row)
            for apart, parted in ((HAIR, True), (0, False), (-HAIR, False)):
                self.assertIs(self.both_ways(count, [at_most(row, price)], [at_least(row, price + apart)]), parted)

    def test_by_a_hair_with_several_offers_each(self):
        third = Fraction(1, 3)
        one = [at_least(paper(3, world), third) for world in (0, 1)]
        for price, parted in ((third + HAIR, True), (third, False), (third - HAIR, False)):
            other = [at_least(paper(3, 2), price), at_most(row_of(1, 1, 1), 1)]
            self.assertIs(self.both_ways(3, one, other), parted)

    def test_they_meet_in_one_point(self):
        half = Fraction(1, 2)
        one = [at_most(paper(3, 0), half), at_least(row_of(1, -1, 0), 0)]
        other = [at_least(paper(3, 0), half), at_most(paper(3, 2), 0)]
        self.assertFalse(self.both_ways(3, one, other))
        self.assertEqual(judged(3, joined(one, other)), ("fair", row_of(half, half, 0)))
        other[1] = at_least(paper(3, 2), HAIR)
        one[1] = at_least(row_of(-1, 1, 0), 0)
        self.assertTrue(self.both_ways(3, one, other))

    def test_they_meet_where_all_but_one_world_is_barred(self):
        for count in COUNTS:
            one = [at_most(paper(count, world), 0) for world in range(0, count, 2)]
            other = [at_most(paper(count, world), 0) for world in range(1, count, 2)]
            self.assertTrue(self.both_ways(count, one, other))
            self.assertFalse(self.both_ways(count, one, other[:-1]))

    def test_offers_that_are_called_off(self):
        one = [(paper(3, 0), (1, 4), None, (0, 1))]
        other = [(paper(3, 0), None, (1, 2), (0, 1))]
        self.assertFalse(self.both_ways(3, one, other))
        self.assertTrue(self.both_ways(3, one, other + [at_most(paper(3, 2), Fraction(1, 2))]))

    def test_a_book_with_itself(self):
        chance = samples.chances()
        for count in COUNTS:
            for many in (0, 1, 5):
                offers = samples.fair_offers(chance, samples.some_weights(chance, count), many)
                self.assertFalse(self.walked(count, offers, offers))

    def test_an_empty_book_with_any(self):
        chance = samples.chances()
        for count in COUNTS:
            for many in (0, 1, 5, 12):
                offers = samples.fair_offers(chance, samples.some_weights(chance, count), many)
                self.assertFalse(self.both_ways(count, [], offers))

    def test_offers_without_sides(self):
        chance = samples.chances()
        idle = [(samples.some_row(chance, 2), None, None, None)] * 2
        cheap, dear = [at_most(paper(2, 0), Fraction(1, 3))], [at_least(paper(2, 0), Fraction(1, 2))]
        self.assertTrue(self.both_ways(2, idle + cheap, idle + dear))
        self.assertFalse(self.both_ways(2, idle, dear))

    def test_twelve_worlds_with_twelve_offers_each(self):
        chance = samples.chances()
        for turn in range(3):
            weights = samples.some_weights(chance, 12)
            one = samples.fair_offers(chance, weights, 12)
            self.assertFalse(self.walked(12, one, samples.fair_offers(chance, weights, 12)))
            narrow = samples.fair_offers(chance, weights, 12, 0)
            other = samples.fair_offers(chance, samples.some_weights(chance, 12), 12, 0)
            self.assertTrue(self.both_ways(12, narrow, other))

    def test_twelve_worlds_by_a_hair(self):
        chance = samples.chances()
        for turn in range(2):
            weights = row_of(*[Fraction(1, 12)] * 12)
            row = samples.some_row(chance, 12)
            price = samples.mean_under(weights, row)
            one = samples.fair_offers(chance, weights, 11) + [at_most(row, price)]
            other = samples.fair_offers(chance, weights, 11)
            self.assertFalse(self.walked(12, one, other + [at_least(row, price)]))
            self.assertTrue(self.walked(12, one, other + [at_least(row, price + HAIR)]))


class BeatenBooks(Parting):
    def some_books(self):
        chance = samples.chances()
        for count in COUNTS:
            fair = samples.fair_offers(chance, samples.some_weights(chance, count), 3)
            yield (count, fair, samples.beaten_offers(chance, count, 2), samples.beaten_offers(chance, count, 5))

    def test_the_first(self):
        for count, fair, beaten, more in self.some_books():
            self.no_fair_of(count, beaten, fair, beaten)
            self.no_fair_of(count, beaten, [], beaten)

    def test_the_second(self):
        for count, fair, beaten, more in self.some_books():
            self.no_fair_of(count, fair, beaten, beaten)
            self.no_fair_of(count, [], beaten, beaten)

    def test_both(self):
        for count, fair, beaten, more in self.some_books():
            self.no_fair_of(count, beaten, more, beaten)
            self.no_fair_of(count, more, beaten, more)
            self.no_fair_of(count, beaten, beaten, beaten)

    def test_both_with_as_many_sides(self):
        row = row_of(1, 0)
        one = [(row, (1, 2), (2, 3), None), (row, (1, 1), (0, 1), None)]
        other = one[::-1]
        self.no_fair_of(2, one, other, one)
        self.no_fair_of(2, other, one, other)

    def test_the_first_is_beaten_and_the_second_parted_from_all(self):
        cheap, dear = at_most(paper(2, 0), Fraction(1, 3)), at_least(paper(2, 0), Fraction(1, 2))
        self.no_fair_of(2, [cheap, dear], [cheap], [cheap, dear])
        self.no_fair_of(2, [cheap], [cheap, dear], [cheap, dear])

    def test_by_a_hair(self):
        beaten = [(row_of(1, 0), of(Fraction(1, 2) - HAIR), (1, 2), None)]
        self.no_fair_of(2, beaten, [], beaten)
        self.no_fair_of(2, [], beaten, beaten)

    def test_twelve_worlds_with_twelve_offers_each(self):
        chance = samples.chances()
        fair = samples.fair_offers(chance, samples.some_weights(chance, 12), 12)
        beaten = samples.beaten_offers(chance, 12, 12)
        self.no_fair_of(12, beaten, fair, beaten)
        self.no_fair_of(12, fair, beaten, beaten)


if __name__ == "__main__":
    unittest.main()
