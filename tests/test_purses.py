import unittest
from fractions import Fraction

import samples
import walking
from samples import COUNTS, of, row_of, worth_of, worths
from surebook.errors import NoFair
from surebook.prices import lower
from surebook.purses import Purse

NOUGHT = (0, 1)
HAIR = Fraction(1, 10 ** 20)


class Kept:
    """What a purse should be, in Fractions."""

    def __init__(self, count, coin):
        self.coin = worth_of(coin)
        self.held = [Fraction(0)] * count

    def take(self, row, price):
        self.coin -= worth_of(price)
        self.held = [one + other for one, other in zip(self.held, worths(row))]


class Looking(walking.Walking):
    def is_as(self, purse, kept):
        """Looks through all that the purse tells, twice."""
        for turn in range(2):
            self.assertEqual(purse.coin(), of(kept.coin))
            self.assertEqual(purse.held(), row_of(*kept.held))
            self.assertTrue(samples.is_row(purse.held(), len(kept.held)))
            for world, worth in enumerate(kept.held):
                self.assertEqual(purse.worth(world), of(kept.coin + worth))
            self.assertEqual(purse.worst(), of(kept.coin + min(kept.held)))


class Taken(Looking):
    def test_by_hand(self):
        purse = Purse(3, (5, 2))
        self.assertEqual((purse.coin(), purse.held(), purse.worst()), ((5, 2), (NOUGHT,) * 3, (5, 2)))
        self.assertIsNone(purse.take(row_of(1, 0, "1/3"), (1, 2)))
        self.assertEqual((purse.coin(), purse.held()), ((2, 1), row_of(1, 0, "1/3")))
        self.assertEqual([purse.worth(world) for world in range(3)], [(3, 1), (2, 1), (7, 3)])
        self.assertEqual(purse.worst(), (2, 1))
        purse.take(row_of(-4, 0, 0), (-1, 1))
        self.assertEqual((purse.coin(), purse.held(), purse.worst()), ((3, 1), row_of(-3, 0, "1/3"), NOUGHT))

    def test_holds_nothing_at_first(self):
        for count in COUNTS:
            for coin in (NOUGHT, (-7, 3), (10 ** 30 - 1, 10 ** 30 - 2)):
                self.is_as(Purse(count, coin), Kept(count, coin))

    def test_many_deeds_of_two_purses_side_by_side(self):
        chance = samples.chances()
        for count in COUNTS:
            coins = [of(samples.some_fraction(chance)) for turn in range(2)]
            pairs = [(Purse(count, coin), Kept(count, coin)) for coin in coins]
            for turn in range(12):
                row, price = samples.some_row(chance, count), of(samples.some_fraction(chance))
                for one in pairs[turn % 2]:
                    one.take(row, price)
                for purse, kept in pairs:
                    self.is_as(purse, kept)

    def test_what_goes_comes_back(self):
        chance = samples.chances()
        row, price = samples.some_row(chance, 4), (5, 7)
        purse = Purse(4, (1, 3))
        purse.take(row, price)
        purse.take(row_of(*[-worth for worth in worths(row)]), (-5, 7))
        self.is_as(purse, Kept(4, (1, 3)))

    def test_nought_is_told_as_nought(self):
        purse = Purse(2, (1, 2))
        purse.take(row_of("1/2", "-1/2"), (1, 2))
        self.assertEqual(purse.coin(), NOUGHT)
        purse.take(row_of("-1/2", "1/2"), NOUGHT)
        self.assertEqual(purse.held(), (NOUGHT, NOUGHT))
        self.assertEqual((purse.worth(0), purse.worst()), (NOUGHT, NOUGHT))

    def test_the_worst_by_worth_not_by_top(self):
        purse = Purse(2, NOUGHT)
        purse.take(row_of("1/2", "2/5"), NOUGHT)
        self.assertEqual(purse.worst(), (2, 5))
        purse.take(row_of(-1, -1), NOUGHT)
        self.assertEqual(purse.worst(), (-3, 5))


class Insured(Looking):
    def insured(self, count, purse, offers):
        """Insures the purse, walks through all that comes of it, and tells the worst, and what it was."""
        before, coin, held = worth_of(purse.worst()), purse.coin(), purse.held()
        least = worth_of(coin) + self.price(lower, count, offers, held)
        handed = list(offers)
        told = purse.insure(offers)
        self.assertEqual(offers, handed)
        rows = walking.gains(offers)
        self.are_multiples(told, len(rows))
        kept = Kept(count, coin)
        kept.held = [one + other for one, other in zip(worths(held), walking.come_to(count, rows, told))]
        self.is_as(purse, kept)
        self.assertEqual(worth_of(purse.worst()), least)
        self.assertGreaterEqual(least, before)
        told.append("more")
        offers.append("more")
        self.is_as(purse, kept)
        offers.pop()
        return (before, least)

    def some_purse(self, chance, count):
        purse = Purse(count, of(samples.some_fraction(chance)))
        for turn in range(chance.randint(0, 3)):
            purse.take(samples.some_row(chance, count), of(samples.some_fraction(chance)))
        return purse

    def test_by_hand(self):
        purse = Purse(2, (3, 1))
        purse.take(row_of(2, 0), (1, 1))
        offers = [(row_of(1, 0), (2, 3), (1, 2), None)]
        self.assertEqual(self.insured(2, purse, offers), (2, 3))
        self.assertEqual((purse.coin(), purse.held()), ((2, 1), row_of(1, 1)))

    def test_some_purses(self):
        chance = samples.chances()
        more = 0
        for count in COUNTS:
            for many in (1, 4, 12):
                offers = samples.fair_offers(chance, samples.some_weights(chance, count), many)
                before, least = self.insured(count, self.some_purse(chance, count), offers)
                more += before < least
        self.assertGreater(more, 8)

    def test_insured_again_the_worst_stays(self):
        chance = samples.chances()
        for count in COUNTS:
            offers = samples.fair_offers(chance, samples.some_weights(chance, count), 4)
            purse = self.some_purse(chance, count)
            first = self.insured(count, purse, offers)[1]
            for turn in range(2):
                self.assertEqual(self.insured(count, purse, offers), (first, first))

    def test_insured_and_taken_in_turn(self):
        chance = samples.chances()
        for count in (2, 3, 7):
            weights = samples.some_weights(chance, count)
            purse = self.some_purse(chance, count)
            for turn in range(4):
                self.insured(count, purse, samples.fair_offers(chance, weights, 3))
                purse.take(samples.some_row(chance, count), (1, 2))

    def test_without_sides_nothing_comes_of_it(self):
        chance = samples.chances()
        for count in COUNTS:
            purse = self.some_purse(chance, count)
            held = purse.held()
            self.assertEqual(purse.insure([]), [])
            self.assertEqual(purse.insure([(samples.some_row(chance, count), None, None, None)]), [])
            self.assertEqual(purse.held(), held)

    def test_a_purse_that_holds_nothing(self):
        chance = samples.chances()
        for count in COUNTS:
            offers = samples.fair_offers(chance, samples.some_weights(chance, count), 4)
            self.assertEqual(self.insured(count, Purse(count, (7, 2)), offers), (Fraction(7, 2), Fraction(7, 2)))

    def test_no_other_multiples_make_the_worst_greater(self):
        chance = samples.chances()
        for count in (2, 3, 5):
            for turn in range(5):
                offers = samples.fair_offers(chance, samples.some_weights(chance, count), 3)
                purse = self.some_purse(chance, count)
                coin, held = worth_of(purse.coin()), worths(purse.held())
                least = self.insured(count, purse, offers)[1]
                rows = walking.gains(offers)
                for again in range(30):
                    multiples = [Fraction(chance.randint(0, 9), chance.randint(1, 4)) for row in rows]
                    sums = walking.come_to(count, rows, [of(multiple) for multiple in multiples])
                    self.assertLessEqual(min(coin + one + other for one, other in zip(held, sums)), least)

    def test_twelve_worlds_with_twelve_offers(self):
        chance = samples.chances()
        for turn in range(3):
            purse = self.some_purse(chance, 12)
            self.insured(12, purse, samples.fair_offers(chance, samples.some_weights(chance, 12), 12))

    def test_called_off_offers(self):
        purse = Purse(3, NOUGHT)
        purse.take(row_of(4, 0, 1), NOUGHT)
        self.assertEqual(self.insured(3, purse, [(row_of(1, 0, 0), None, (1, 4), (0, 1))]), (0, 1))

    def test_two_purses_side_by_side(self):
        offers = [(row_of(1, 0), (2, 3), (1, 2), None)]
        one, other = Purse(2, NOUGHT), Purse(2, NOUGHT)
        one.take(row_of(2, 0), NOUGHT)
        other.take(row_of(0, 2), NOUGHT)
        self.assertEqual(self.insured(2, one, offers), (0, 1))
        self.assertEqual((other.held(), other.worst()), (row_of(0, 2), NOUGHT))
        self.assertEqual(self.insured(2, other, offers), (0, Fraction(2, 3)))
        self.assertEqual(one.worst(), (1, 1))


class BeatenBooks(Looking):
    def test_refused_and_nothing_is_changed(self):
        chance = samples.chances()
        for count in COUNTS:
            for many in (1, 3, 12):
                purse, kept = Purse(count, (2, 3)), Kept(count, (2, 3))
                for turn in range(2):
                    row, price = samples.some_row(chance, count), of(samples.some_fraction(chance))
                    purse.take(row, price)
                    kept.take(row, price)
                offers = samples.beaten_offers(chance, count, many)
                refusal = self.refused(NoFair, purse.insure, offers)
                self.gain_everywhere(count, walking.gains(offers), refusal.multiples)
                self.is_as(purse, kept)

    def test_by_a_hair(self):
        for apart in (-HAIR, HAIR):
            purse = Purse(2, NOUGHT)
            purse.take(row_of(1, 0), NOUGHT)
            offers = [(row_of(1, 0), of(Fraction(1, 2) + apart), (1, 2), None)]
            if apart > 0:
                purse.insure(offers)
                self.assertEqual(purse.worst(), (1, 2))
            else:
                refusal = self.refused(NoFair, purse.insure, offers)
                self.gain_everywhere(2, walking.gains(offers), refusal.multiples)
                self.assertEqual(purse.held(), row_of(1, 0))


if __name__ == "__main__":
    unittest.main()
