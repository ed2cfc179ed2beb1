import unittest
from fractions import Fraction

import samples
import walking
from samples import COUNTS, row_of, worths
from surebook.prices import barred, lower, upper

LONG = 10 ** 30 - 1


def paper(count, world):
    return row_of(*[int(world == one) for one in range(count)])


class Pricing(walking.Walking):
    def some_books(self):
        chance = samples.chances()
        for count in COUNTS:
            for many in (0, 1, 4, 12):
                weights = samples.some_weights(chance, count)
                yield (chance, count, samples.fair_offers(chance, weights, many), weights)


class Prices(Pricing):
    def test_by_hand(self):
        offers = [(row_of(1, 0, 0), (1, 2), (1, 3), None)]
        self.assertEqual(self.prices(3, offers, row_of(1, 0, 0)), (Fraction(1, 3), Fraction(1, 2)))
        self.assertEqual(self.prices(3, offers, row_of(0, 1, 0)), (0, Fraction(2, 3)))
        self.assertEqual(self.prices(3, offers, row_of(0, 1, 1)), (Fraction(1, 2), Fraction(2, 3)))
        self.assertEqual(self.prices(3, offers, row_of(6, -6, 0)), (-2, 3))

    def test_between_them_lie_the_means_of_known_weights(self):
        for chance, count, offers, weights in self.some_books():
            row = samples.some_row(chance, count)
            low, high = self.prices(count, offers, row)
            self.assertTrue(low <= samples.mean_under(weights, row) <= high)

    def test_no_offers(self):
        chance = samples.chances()
        for count in COUNTS:
            row = samples.some_row(chance, count)
            self.assertEqual(self.prices(count, [], row), (min(worths(row)), max(worths(row))))

    def test_by_the_corners(self):
        chance = samples.chances()
        for turn in range(40):
            count = chance.randint(2, 4)
            offers = samples.fair_offers(chance, samples.some_weights(chance, count), chance.randint(1, 3))
            found = walking.corners(count, walking.gains(offers))
            row = samples.some_row(chance, count)
            means = [samples.mean_under(corner, row) for corner in found]
            self.assertEqual(self.prices(count, offers, row), (min(means), max(means)))

    def test_turned(self):
        for chance, count, offers, weights in self.some_books():
            row = samples.some_row(chance, count)
            low, high = self.prices(count, offers, row)
            self.assertEqual(self.prices(count, offers, row_of(*[-worth for worth in worths(row)])), (-high, -low))

    def test_multiplied_and_with_coin_added(self):
        for chance, count, offers, weights in self.some_books():
            row = samples.some_row(chance, count)
            low, high = self.prices(count, offers, row)
            by, coin = Fraction(chance.randint(1, 9), chance.randint(1, 9)), samples.some_fraction(chance)
            more = row_of(*[worth * by + coin for worth in worths(row)])
            self.assertEqual(self.prices(count, offers, more), (low * by + coin, high * by + coin))

    def test_the_same_in_all_worlds(self):
        for chance, count, offers, weights in self.some_books():
            for worth in (Fraction(0), Fraction(-7, 3), Fraction(LONG)):
                self.assertEqual(self.prices(count, offers, row_of(*[worth] * count)), (worth, worth))

    def test_an_offers_own_row(self):
        for chance, count, offers, weights in self.some_books():
            for row, ask, bid, event in offers:
                if event is None:
                    low, high = self.prices(count, offers, row)
                    self.assertTrue(ask is None or high <= samples.worth_of(ask))
                    self.assertTrue(bid is None or low >= samples.worth_of(bid))

    def test_one_price(self):
        chance = samples.chances()
        for count in COUNTS:
            weights = samples.some_weights(chance, count)
            offers = [(paper(count, world), weights[world], weights[world], None) for world in range(count)]
            row = samples.some_row(chance, count)
            mean = samples.mean_under(weights, row)
            self.assertEqual(self.prices(count, offers, row), (mean, mean))

    def test_a_called_off_offer_counts_on_its_event_alone(self):
        offers = [(row_of(1, 0, 0), (1, 4), (1, 4), (0, 1))]
        self.assertEqual(self.prices(3, offers, row_of(1, 0, 0)), (0, Fraction(1, 4)))
        self.assertEqual(self.prices(3, offers, row_of(1, 0, 0)[:2] + ((1, 4),)), (Fraction(1, 4), Fraction(1, 4)))

    def test_thirty_figures(self):
        chance = samples.chances()
        for count in (2, 4, 6):
            rows = []
            for turn in range(5):
                ratios = [Fraction(chance.randint(-LONG, LONG), chance.randint(10 ** 29, LONG)) for one in range(count)]
                rows.append(row_of(*ratios))
            offers = [(row, samples.of(max(worths(row)) / 3 * 2), None, None) for row in rows[:4]]
            low, high = self.prices(count, offers + [(rows[4], None, (-LONG, 7), None)], rows[4])
            self.assertLess(low, high)

    def test_twelve_worlds_with_twelve_offers(self):
        chance = samples.chances()
        for turn in range(5):
            weights = samples.some_weights(chance, 12)
            row = samples.some_row(chance, 12)
            low, high = self.prices(12, samples.fair_offers(chance, weights, 12), row)
            self.assertTrue(low <= samples.mean_under(weights, row) <= high)

    def test_a_beaten_book_is_refused(self):
        chance = samples.chances()
        for count in COUNTS:
            for many in (1, 3, 12):
                offers = samples.beaten_offers(chance, count, many)
                for ask in (upper, lower):
                    self.no_fair(count, offers, ask, samples.some_row(chance, count))


class Barred(Pricing):
    def barred_worlds(self, count, offers):
        """Walks through what is told, of the other worlds through weights that give them a share."""
        told = self.asked(barred, count, offers)
        self.assertIs(type(told), list)
        rows = walking.gains(offers)
        worlds = []
        for one in told:
            self.assertIs(type(one), tuple)
            self.assertEqual(len(one), 2)
            self.assertTrue(samples.is_whole(one[0]))
            self.bars_event(count, rows, (one[0],), one[1])
            worlds.append(one[0])
        self.assertEqual(worlds, sorted(set(worlds)))
        for world in range(count):
            highest = self.price(upper, count, offers, paper(count, world))
            self.assertIs(highest > 0, world not in worlds)
        return worlds

    def test_without_sides_none(self):
        for count in COUNTS:
            self.assertEqual(self.barred_worlds(count, []), [])
            self.assertEqual(self.barred_worlds(count, [(paper(count, 0), None, None, None)]), [])

    def test_papers_for_nothing(self):
        for count in COUNTS:
            for events in ((0,), (count - 1,), tuple(range(0, count - 1, 2)), tuple(range(1, count))):
                offers = [(paper(count, world), (0, 1), None, None) for world in events]
                self.assertEqual(self.barred_worlds(count, offers), list(events))

    def test_one_row_bars_several(self):
        offers = [(row_of(0, 3, 0, Fraction(1, 9)), (0, 1), None, None)]
        self.assertEqual(self.barred_worlds(4, offers), [1, 3])
        self.assertEqual(self.barred_worlds(4, [(row_of(1, 2, 3, 4), (0, 1), None, (0, 2))]), [0, 2])

    def test_by_a_price_of_one(self):
        offers = [(row_of(1, 1, 0), None, (1, 1), None)]
        self.assertEqual(self.barred_worlds(3, offers), [2])

    def test_by_several_offers_together(self):
        offers = [(row_of(1, 0, 0), (1, 2), None, None), (row_of(0, 1, 0), (1, 2), None, None)]
        self.assertEqual(self.barred_worlds(3, offers), [])
        offers.append((row_of(0, 0, 1), (0, 1), (0, 1), None))
        self.assertEqual(self.barred_worlds(3, offers), [2])

    def test_weights_in_all_worlds(self):
        chance = samples.chances()
        for count in COUNTS:
            offers = samples.fair_offers(chance, row_of(*[Fraction(1, count)] * count), 8)
            self.assertEqual(self.barred_worlds(count, offers), [])

    def test_only_given_weights_fit(self):
        chance = samples.chances()
        for count in COUNTS:
            weights = samples.some_weights(chance, count)
            offers = [(paper(count, world), weights[world], weights[world], None) for world in range(count)]
            right = [world for world in range(count) if weights[world] == (0, 1)]
            self.assertEqual(self.barred_worlds(count, offers), right)

    def test_by_the_corners(self):
        chance = samples.chances()
        for turn in range(40):
            count = chance.randint(2, 4)
            weights = samples.some_weights(chance, count)
            offers = samples.fair_offers(chance, weights, chance.randint(1, 3), 0)
            found = walking.corners(count, walking.gains(offers))
            right = [world for world in range(count) if not any(corner[world][0] for corner in found)]
            self.assertEqual(self.barred_worlds(count, offers), right)

    def test_a_beaten_book_is_refused(self):
        chance = samples.chances()
        for count in COUNTS:
            self.no_fair(count, samples.beaten_offers(chance, count, 3), barred)

    def test_told_lists_are_the_askers_own(self):
        offers = [(paper(3, world), (0, 1), None, None) for world in (0, 1)]
        first = barred(3, offers)
        right = [(world, list(multiples)) for world, multiples in first]
        first[0][1].append("more")
        first.append("more")
        self.assertEqual(barred(3, offers), right)


class ToldLists(unittest.TestCase):
    def test_they_are_the_askers_own(self):
        offers = samples.fair_offers(samples.chances(), row_of(Fraction(1, 2), Fraction(1, 2)), 4)
        for ask in (upper, lower):
            first = ask(2, offers, row_of(1, 0))
            right = (first[0], list(first[1]), first[2])
            first[1].append("more")
            self.assertEqual(ask(2, offers, row_of(1, 0)), right)


if __name__ == "__main__":
    unittest.main()
