import unittest
from fractions import Fraction

import samples
import walking
from samples import of, row_of, worths
from surebook.books import judged
from surebook.corners import corners
from surebook.learning import learned, shares
from surebook.prices import lower, upper

SMALL = range(2, 6)
HAIR = Fraction(1, 10 ** 20)
LONG = 10 ** 30 - 1


def paper(count, world):
    return row_of(*[int(world == one) for one in range(count)])


def just(count, weights):
    """A book that these weights alone fit."""
    return [(paper(count, world), weights[world], weights[world], None) for world in range(count)]


def long_offer(chance, count):
    row = [Fraction(chance.randint(-LONG, LONG), chance.randint(LONG // 3, LONG)) for world in range(count)]
    middle_worth = (max(row) + min(row)) / 2
    return (row_of(*row), of((max(row) * 2 + middle_worth) / 3), of((min(row) * 2 + middle_worth) / 3), None)


def small_books():
    chance = samples.chances()
    for turn in range(80):
        count = chance.randint(2, 4)
        weights = samples.some_weights(chance, count)
        yield (chance, count, samples.fair_offers(chance, weights, chance.randint(0, 4)))


class Asking(walking.Walking):
    def walked(self, count, offers):
        """Walks through the corners that are told; of none other it is said that there are none."""
        told = self.asked(corners, count, offers)
        self.assertIs(type(told), list)
        rows = walking.gains(offers)
        for corner in told:
            self.are_fitting(corner, count, rows)
            self.assertTrue(walking.lie_in_no_middle(corner, rows), corner)
        ranks = [worths(corner) for corner in told]
        self.assertTrue(all(one < other for one, other in zip(ranks, ranks[1:])), told)
        return told

    def are_all(self, count, offers):
        """Walks through them, and holds them against those that are found by trying out all edges."""
        told = self.walked(count, offers)
        self.assertEqual(set(told), set(walking.corners(count, walking.gains(offers))))
        return told


class Corners(Asking):
    def test_by_hand(self):
        offers = [(row_of(1, 0, 0), (1, 2), (1, 3), None)]
        third, half = Fraction(1, 3), Fraction(1, 2)
        right = [row_of(third, 0, 1 - third), row_of(third, 1 - third, 0), row_of(half, 0, half), row_of(half, half, 0)]
        self.assertEqual(self.are_all(3, offers), right)
        self.assertEqual(self.are_all(2, [(row_of(1, 0), (1, 2), None, None)]), [row_of(0, 1), row_of(half, half)])

    def test_no_offers(self):
        for count in SMALL:
            right = [paper(count, world) for world in reversed(range(count))]
            self.assertEqual(self.are_all(count, []), right)
            idle = [(row_of(*range(count)), None, None, None), (row_of(*range(count)), (0, 1), (0, 1), ())]
            self.assertEqual(self.are_all(count, idle), right)

    def test_one_row_alone_fits(self):
        chance = samples.chances()
        for count in SMALL:
            for turn in range(4):
                weights = samples.some_weights(chance, count)
                self.assertEqual(self.are_all(count, just(count, weights)), [weights])

    def test_a_world_alone(self):
        for count in SMALL:
            for world in range(count):
                offers = [(paper(count, world), None, (1, 1), None)]
                self.assertEqual(self.are_all(count, offers), [paper(count, world)])

    def test_two_fit_and_what_is_between_them(self):
        half = Fraction(1, 2)
        offers = [(row_of(1, -1, 0), (0, 1), (0, 1), None), (row_of(0, 0, 0), (0, 1), None, None)]
        self.assertEqual(self.are_all(3, offers), [row_of(0, 0, 1), row_of(half, half, 0)])

    def test_a_beaten_book_has_none(self):
        chance = samples.chances()
        for count in SMALL:
            for many in (1, 2, 5):
                self.assertEqual(self.are_all(count, samples.beaten_offers(chance, count, many)), [])

    def test_beaten_by_a_hair(self):
        for count in SMALL:
            offers = just(count, row_of(*[Fraction(1, count)] * count))[1:]
            self.assertEqual(len(self.walked(count, offers)), 1)
            offers.append((paper(count, 0), None, of(Fraction(1, count) + HAIR), None))
            self.assertEqual(self.walked(count, offers), [])

    def test_cut_off_by_a_hair(self):
        for count in (2, 3, 4):
            offers = [(paper(count, 0), of(1 - HAIR), None, None)]
            told = self.are_all(count, offers)
            self.assertEqual(len(told), 2 * (count - 1))
            self.assertEqual(max(corner[0] for corner in told), of(1 - HAIR))

    def test_some_book(self):
        found = 0
        for chance, count, offers in small_books():
            found += len(self.are_all(count, offers))
        self.assertGreater(found, 150)

    def test_any_offers(self):
        chance = samples.chances()
        words = []
        for turn in range(80):
            count = chance.randint(2, 4)
            offers = samples.some_offers(chance, count, chance.randint(1, 4))
            told = self.are_all(count, offers)
            words.append(judged(count, offers)[0])
            self.assertEqual(told == [], words[-1] == "beaten")
        self.assertGreater(words.count("fair"), 10)
        self.assertGreater(words.count("beaten"), 10)

    def test_many_edges_meet_in_a_corner(self):
        chance = samples.chances()
        for turn in range(40):
            count = chance.randint(3, 4)
            point = samples.some_weights(chance, count)
            self.are_all(count, samples.fair_offers(chance, point, 4, 0))
            rows = [samples.some_row(chance, count) for side in range(5)]
            offers = [(row, of(samples.mean_under(point, row)), None, None) for row in rows]
            self.are_all(count, offers)

    def test_sides_that_say_the_same_twice(self):
        for chance, count, offers in small_books():
            if offers and count < 4:
                row, ask, bid, event = offers[0]
                double = row_of(*[worth * 2 for worth in worths(row)])
                asked = None if ask is None else of(samples.worth_of(ask) * 2)
                bidden = None if bid is None else of(samples.worth_of(bid) * 2)
                right = self.walked(count, offers)
                self.assertEqual(self.are_all(count, offers[:3] + [(double, asked, bidden, event)] + offers[3:]), right)
                self.assertEqual(self.walked(count, offers + offers), right)
                self.assertEqual(self.walked(count, offers[::-1]), right)

    def test_less_ahead_of_greater_not_top_ahead_of_top(self):
        offers = [(row_of(1, 0), (1, 2), (2, 5), None)]
        self.assertEqual(self.are_all(2, offers), [((2, 5), (3, 5)), ((1, 2), (1, 2))])
        offers = [(row_of(1, 0), (3, 10), (2, 7), None)]
        self.assertEqual(self.are_all(2, offers), [((2, 7), (5, 7)), ((3, 10), (7, 10))])

    def test_alike_in_world_0_the_next_world_tells(self):
        offers = [(row_of(1, 0, 0), (1, 4), (1, 4), None), (row_of(0, 1, 0), (1, 2), (2, 5), None)]
        self.assertEqual(self.are_all(3, offers), [((1, 4), (2, 5), (7, 20)), ((1, 4), (1, 2), (1, 4))])

    def test_five_worlds_with_ten_sides(self):
        chance = samples.chances()
        for spread in (0, Fraction(1, 3), 2):
            offers = []
            weights = samples.some_weights(chance, 5)
            while len(walking.sides(offers)) < 10:
                more = samples.fair_offer(chance, weights, spread)
                if len(walking.sides(offers + [more])) <= 10:
                    offers.append(more)
            told = self.are_all(5, offers)
            self.assertGreaterEqual(len(told), 1)

    def test_five_worlds_with_many_corners(self):
        offers = [(paper(5, world), (1, 3), (1, 10), None) for world in range(5)]
        self.assertGreater(len(self.are_all(5, offers)), 19)

    def test_thirty_figures(self):
        chance = samples.chances()
        for count in SMALL:
            offers = [long_offer(chance, count) for turn in range(2)]
            told = self.are_all(count, offers)
            self.assertGreater(len(told), 1)

    def test_told_lists_are_the_askers_own(self):
        for offers in ([], [(row_of(1, 0), (1, 2), None, None)]):
            first = corners(2, offers)
            right = list(first)
            first.append("more")
            first[0] = "other"
            self.assertEqual(corners(2, offers), right)


class UnderTheCorners(walking.Walking):
    def means(self, found, row):
        given = [samples.mean_under(corner, row) for corner in found]
        return (of(min(given)), of(max(given)))

    def test_prices(self):
        for chance, count, offers in small_books():
            row = samples.some_row(chance, count)
            right = self.means(corners(count, offers), row)
            self.assertEqual((lower(count, offers, row)[0], upper(count, offers, row)[0]), right)

    def test_shares_and_learned_prices(self):
        asked = 0
        for chance, count, offers in small_books():
            event = samples.some_event(chance, count)
            found = corners(count, offers)
            given = [walking.share(corner, event) for corner in found]
            self.assertEqual(shares(count, offers, event), (of(min(given)), of(max(given))))
            some = [walking.left_of(corner, event) for corner in found if walking.share(corner, event) > 0]
            if some:
                row = samples.some_row(chance, count)
                self.assertEqual(learned(count, offers, event, row), self.means(some, row))
                asked += 1
        self.assertGreater(asked, 40)

    def test_five_worlds_with_ten_sides(self):
        chance = samples.chances()
        for turn in range(5):
            weights = samples.some_weights(chance, 5)
            offers = samples.fair_offers(chance, weights, 5)
            found = corners(5, offers)
            for again in range(3):
                row = samples.some_row(chance, 5)
                low, high = self.prices(5, offers, row)
                self.assertEqual((of(low), of(high)), self.means(found, row))


if __name__ == "__main__":
    unittest.main()
