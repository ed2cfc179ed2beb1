import copy
import itertools
import unittest
from fractions import Fraction

import samples
import walking
from samples import COUNTS, row_of, worths
from surebook.books import judged
from surebook.errors import NoChance
from surebook.learning import called_off, learned, left, shares
from surebook.prices import lower, upper
from surebook.solver import solve

LITTLE = Fraction(1, 10 ** 20)
NOUGHT = (0, 1)


def paper(count, event):
    return row_of(*[int(world in walking.inside(count, event)) for world in range(count)])


def barring(count, event):
    """An offer that gives the event's paper away for nothing."""
    return (paper(count, event), NOUGHT, None, None)


def events_of(count):
    return [None] + [event for size in range(count + 1) for event in itertools.combinations(range(count), size)]


def small_books():
    chance = samples.chances()
    for turn in range(30):
        count = chance.randint(2, 4)
        weights = samples.some_weights(chance, count)
        offers = samples.fair_offers(chance, weights, chance.randint(0, 3))
        yield (chance, count, offers, walking.corners(count, walking.gains(offers)))


def large_books():
    chance = samples.chances()
    for count in COUNTS:
        for many in (1, 5, 12):
            weights = samples.some_weights(chance, count)
            yield (chance, count, samples.fair_offers(chance, weights, many), weights)


class Asking(walking.Walking):
    def are_two_ratios(self, told):
        self.assertIs(type(told), tuple)
        self.assertEqual(len(told), 2)
        self.assertTrue(samples.is_ratio(told[0]) and samples.is_ratio(told[1]), told)
        least, greatest = worths(told)
        self.assertLessEqual(least, greatest)
        return (least, greatest)

    def greatest_left(self, count, offers, event, row):
        """The greatest mean under weights left, walked; None where there are none."""
        rows = walking.gains(offers)
        told = solve(count, rows, event, row)
        if told[0] == "none":
            self.is_none(count, rows, event, told)
            return None
        self.is_most(count, rows, event, row, told)
        return samples.worth_of(told[1])


class Shares(Asking):
    def test_by_hand(self):
        offers = [(row_of(1, 0, 0), (1, 2), (1, 3), None)]
        self.assertEqual(shares(3, offers, (0,)), ((1, 3), (1, 2)))
        self.assertEqual(shares(3, offers, (1,)), (NOUGHT, (2, 3)))
        self.assertEqual(shares(3, offers, (0, 2)), ((1, 3), (1, 1)))
        self.assertEqual(shares(3, offers, (1, 2)), ((1, 2), (2, 3)))

    def test_none_no_world_all_worlds(self):
        for chance, count, offers, weights in large_books():
            self.assertEqual(self.asked(shares, count, offers, None), ((1, 1), (1, 1)))
            self.assertEqual(self.asked(shares, count, offers, tuple(range(count))), ((1, 1), (1, 1)))
            self.assertEqual(self.asked(shares, count, offers, ()), (NOUGHT, NOUGHT))

    def test_by_the_corners(self):
        for chance, count, offers, found in small_books():
            for event in events_of(count):
                given = [walking.share(corner, event) for corner in found]
                told = self.are_two_ratios(self.asked(shares, count, offers, event))
                self.assertEqual(told, (min(given), max(given)))

    def test_round_the_share_of_known_weights(self):
        for chance, count, offers, weights in large_books():
            event = samples.some_event(chance, count)
            least, greatest = self.are_two_ratios(shares(count, offers, event))
            self.assertTrue(least <= walking.share(weights, event) <= greatest)
            out = tuple(walking.outside(count, event))
            self.assertEqual(self.are_two_ratios(shares(count, offers, out)), (1 - greatest, 1 - least))

    def test_a_beaten_book_is_refused(self):
        chance = samples.chances()
        for count in COUNTS:
            offers = samples.beaten_offers(chance, count, 4)
            for event in (None, (), (0,)):
                self.no_fair(count, offers, shares, event)


class Learned(Asking):
    def test_by_hand(self):
        offers = [(row_of(1, 0, 0), (1, 2), (1, 2), None), (row_of(0, 1, 0), (1, 3), (1, 4), None)]
        self.assertEqual(learned(3, offers, (0, 1), row_of(1, 0, 99)), ((3, 5), (2, 3)))
        self.assertEqual(learned(3, offers, (1, 2), row_of(99, 1, 0)), ((1, 2), (2, 3)))
        self.assertEqual(learned(3, offers, (2,), row_of(1, 2, 3)), ((3, 1), (3, 1)))

    def test_of_none_the_prices(self):
        for chance, count, offers, weights in large_books():
            row = samples.some_row(chance, count)
            right = (lower(count, offers, row)[0], upper(count, offers, row)[0])
            self.assertEqual(self.asked(learned, count, offers, None, row), right)
            self.assertEqual(self.asked(learned, count, offers, tuple(range(count)), row), right)

    def test_by_the_corners(self):
        refusals = 0
        for chance, count, offers, found in small_books():
            row = samples.some_row(chance, count)
            for event in events_of(count):
                some = [walking.left_of(corner, event) for corner in found if walking.share(corner, event) > 0]
                if some:
                    means = [samples.mean_under(corner, row) for corner in some]
                    told = self.are_two_ratios(self.asked(learned, count, offers, event, row))
                    self.assertEqual(told, (min(means), max(means)))
                else:
                    refusals += 1
                    refusal = self.refused(NoChance, learned, count, offers, event, row)
                    self.bars_event(count, walking.gains(offers), event, refusal.multiples)
        self.assertGreater(refusals, 30)

    def test_in_large_books(self):
        for chance, count, offers, weights in large_books():
            row = samples.some_row(chance, count)
            event = samples.some_event(chance, count)
            if walking.share(weights, event) > 0:
                least, greatest = self.are_two_ratios(self.asked(learned, count, offers, event, row))
                mean = samples.mean_under(walking.left_of(weights, event), row)
                self.assertTrue(least <= mean <= greatest)
                self.assertEqual(greatest, self.greatest_left(count, offers, event, row))
                turned = row_of(*[-worth for worth in worths(row)])
                self.assertEqual(-least, self.greatest_left(count, offers, event, turned))

    def test_what_the_row_is_elsewhere_does_not_count(self):
        for chance, count, offers, weights in large_books():
            event = tuple(world for world in range(count) if weights[world][0])
            row = samples.some_row(chance, count)
            cut = row_of(*[worth if world in event else 0 for world, worth in enumerate(worths(row))])
            self.assertEqual(learned(count, offers, event, row), learned(count, offers, event, cut))

    def test_no_world(self):
        for chance, count, offers, weights in large_books():
            refusal = self.refused(NoChance, learned, count, offers, (), samples.some_row(chance, count))
            self.bars_event(count, walking.gains(offers), (), refusal.multiples)
        self.assertEqual(self.refused(NoChance, learned, 2, [], (), row_of(1, 2)).multiples, [])

    def test_barred_worlds(self):
        for count in COUNTS:
            event = tuple(range(0, count - 1, 2))
            offers = [barring(count, event)]
            row = row_of(*range(count))
            refusal = self.refused(NoChance, learned, count, offers, event, row)
            self.bars_event(count, walking.gains(offers), event, refusal.multiples)
            self.assertEqual(learned(count, offers, event + (count - 1,), row), ((count - 1, 1), (count - 1, 1)))

    def test_a_beaten_book_is_refused_ahead(self):
        chance = samples.chances()
        for count in COUNTS:
            offers = samples.beaten_offers(chance, count, 4)
            for event in (None, (), (0,), tuple(range(1, count))):
                self.no_fair(count, offers, learned, event, samples.some_row(chance, count))


class Left(Asking):
    def walked(self, count, offers, event, weights):
        """Walks through the answer and tells its word."""
        told = self.asked(left, count, offers, event, weights)
        self.assertIs(type(told), tuple)
        self.assertEqual(len(told), 2)
        if told[0] == "left":
            self.are_fitting(told[1], count, walking.gains(offers))
            self.assertGreater(walking.share(told[1], event), 0)
            self.assertEqual(walking.left_of(told[1], event), weights)
        else:
            self.assertEqual(told[0], "not")
            self.assertTrue(samples.is_row(told[1], count), told)
            self.assertTrue(all(told[1][world] == NOUGHT for world in walking.outside(count, event)))
            self.assertGreater(samples.mean_under(weights, told[1]), 0)
            most = self.greatest_left(count, offers, event, told[1])
            self.assertTrue(most is None or most <= 0)
        return told

    def weights_on(self, chance, count, event):
        loads = [chance.randint(0, 4) * (world in walking.inside(count, event)) for world in range(count)]
        loads[chance.choice(list(walking.inside(count, event)))] += 1
        return row_of(*[Fraction(load, sum(loads)) for load in loads])

    def test_by_hand(self):
        offers = [(row_of(1, 0, 0), (1, 2), (1, 2), None), (row_of(0, 1, 0), (1, 3), (1, 4), None)]
        for weight, right in (("3/5", "left"), ("5/8", "left"), ("2/3", "left"), ("1/2", "not"), ("3/4", "not")):
            weight = Fraction(weight)
            self.assertEqual(self.walked(3, offers, (0, 1), row_of(weight, 1 - weight, 0))[0], right)
        for moved in (Fraction(3, 5) - LITTLE, Fraction(2, 3) + LITTLE):
            self.assertEqual(self.walked(3, offers, (0, 1), row_of(moved, 1 - moved, 0))[0], "not")

    def test_of_one_world(self):
        offers = [barring(3, (0,))]
        self.assertEqual(self.walked(3, offers, (0,), row_of(1, 0, 0))[0], "not")
        self.assertEqual(self.walked(3, offers, (1,), row_of(0, 1, 0)), ("left", row_of(0, 1, 0)))
        offers = [(row_of(1, 0, 0), (1, 3), (1, 3), None)]
        told = self.walked(3, offers, (0,), row_of(1, 0, 0))
        self.assertEqual((told[0], told[1][0]), ("left", (1, 3)))

    def test_none_is_all_worlds(self):
        for chance, count, offers, weights in large_books():
            self.assertEqual(self.walked(count, offers, None, weights), ("left", weights))
            self.assertEqual(self.walked(count, offers, tuple(range(count)), weights), ("left", weights))
            other = samples.some_weights(chance, count)
            right = "left" if walking.fit(other, walking.gains(offers)) else "not"
            self.assertEqual(self.walked(count, offers, None, other)[0], right)

    def test_what_fitting_weights_leave(self):
        for chance, count, offers, weights in large_books():
            event = samples.some_event(chance, count)
            if walking.share(weights, event) > 0:
                told = self.walked(count, offers, event, walking.left_of(weights, event))
                self.assertEqual(told[0], "left")

    def test_any_weights(self):
        words = []
        for chance, count, offers, weights in large_books():
            for turn in range(3):
                event = samples.some_event(chance, count)
                words.append(self.walked(count, offers, event, self.weights_on(chance, count, event))[0])
        self.assertGreater(words.count("left"), 5)
        self.assertGreater(words.count("not"), 5)

    def test_against_all_corners(self):
        for chance, count, offers, found in small_books():
            for event in events_of(count):
                if event != ():
                    told = self.walked(count, offers, event, self.weights_on(chance, count, event))
                    some = [walking.left_of(corner, event) for corner in found if walking.share(corner, event) > 0]
                    if told[0] == "not":
                        self.assertTrue(all(samples.mean_under(corner, told[1]) <= 0 for corner in some))

    def test_mixes_of_corners(self):
        for chance, count, offers, found in small_books():
            for event in events_of(count):
                some = [corner for corner in found if walking.share(corner, event) > 0]
                if some:
                    one, other = chance.choice(some), chance.choice(found)
                    middle = row_of(*[(mine + theirs) / 2 for mine, theirs in zip(worths(one), worths(other))])
                    told = self.walked(count, offers, event, walking.left_of(middle, event))
                    self.assertEqual(told[0], "left")

    def test_none_are_left(self):
        chance = samples.chances()
        for count in COUNTS:
            event = tuple(range(0, count - 1, 2))
            for turn in range(3):
                weights = self.weights_on(chance, count, event)
                self.assertIsNone(self.greatest_left(count, [barring(count, event)], event, weights))
                self.assertEqual(self.walked(count, [barring(count, event)], event, weights)[0], "not")

    def test_no_offers(self):
        chance = samples.chances()
        for count in COUNTS:
            event = samples.some_event(chance, count)
            weights = self.weights_on(chance, count, event)
            self.assertEqual(self.walked(count, [], event, weights)[0], "left")


class CalledOff(Asking):
    def walked(self, count, offers, event, row):
        """The answer, held against books with the offer behind the others."""
        told = self.asked(called_off, count, offers, event, row)
        self.assertIs(type(told), tuple)
        self.assertTrue(all(samples.is_ratio(price) for price in told[1:]), told)
        if told[0] == "any":
            self.assertEqual(len(told), 1)
            fair = [Fraction(-10 ** 9), Fraction(0), Fraction(1, 3), Fraction(10 ** 9)]
            self.fair_at(count, offers, event, row, fair, [])
        elif told[0] == "one":
            self.assertEqual(len(told), 2)
            price = samples.worth_of(told[1])
            self.fair_at(count, offers, event, row, [price], [price - LITTLE, price + LITTLE, price - 5, price + 5])
        else:
            self.assertEqual((told[0], len(told)), ("span", 3))
            least, greatest = worths(told[1:])
            self.assertLess(least, greatest)
            fair = [least, greatest, (least + greatest) / 2, least + (greatest - least) / 10 ** 9]
            self.fair_at(count, offers, event, row, fair, [least - LITTLE, greatest + LITTLE, least - 5, greatest + 5])
        return told

    def fair_at(self, count, offers, event, row, fair, beaten):
        for prices, word in ((fair, "fair"), (beaten, "beaten")):
            for price in prices:
                book = offers + [(row, samples.of(price), samples.of(price), event)]
                told = judged(count, book)
                self.assertEqual(told[0], word)
                if word == "fair":
                    self.are_fitting(told[1], count, walking.gains(book))
                else:
                    self.gain_everywhere(count, walking.gains(book), told[1])

    def test_by_hand(self):
        offers = [(row_of(1, 0, 0), (1, 2), (1, 2), None), (row_of(0, 1, 0), (1, 3), (1, 4), None)]
        self.assertEqual(self.walked(3, offers, (0, 1), row_of(1, 0, 99)), ("span", (3, 5), (2, 3)))
        self.assertEqual(self.walked(3, offers, (1,), row_of(1, 7, 99)), ("one", (7, 1)))
        self.assertEqual(self.walked(3, offers, (0, 1), row_of(7, 7, 99)), ("one", (7, 1)))
        self.assertEqual(self.walked(3, [], (0, 1), row_of(1, 0, 99)), ("any",))
        self.assertEqual(self.walked(3, offers, (), row_of(1, 0, 99)), ("any",))

    def test_some_weights_give_the_event_nought(self):
        offers = [(row_of(1, 0, 0), (1, 2), None, None)]
        self.assertEqual(self.walked(3, offers, (0,), row_of(4, 5, 6)), ("any",))
        offers = [(row_of(1, 0, 0), (1, 2), samples.of(LITTLE), None)]
        self.assertEqual(self.walked(3, offers, (0,), row_of(4, 5, 6)), ("one", (4, 1)))
        self.assertEqual(self.walked(3, [barring(3, (0, 2))], (0, 2), row_of(4, 5, 6)), ("any",))

    def test_none_and_all_worlds(self):
        for chance, count, offers, weights in large_books():
            if count in (2, 3, 7, 12):
                row = samples.some_row(chance, count)
                low, high = lower(count, offers, row)[0], upper(count, offers, row)[0]
                right = ("one", low) if low == high else ("span", low, high)
                self.assertEqual(self.walked(count, offers, None, row), right)
                self.assertEqual(self.walked(count, offers, tuple(range(count)), row), right)

    def test_by_the_corners(self):
        words = []
        for chance, count, offers, found in small_books():
            row = samples.some_row(chance, count)
            for event in events_of(count):
                given = [walking.share(corner, event) for corner in found]
                if min(given) == 0:
                    right = ("any",)
                else:
                    means = [samples.mean_under(walking.left_of(corner, event), row) for corner in found]
                    least, greatest = samples.of(min(means)), samples.of(max(means))
                    right = ("one", least) if least == greatest else ("span", least, greatest)
                self.assertEqual(self.walked(count, offers, event, row), right)
                words.append(right[0])
        self.assertTrue(all(words.count(word) > 10 for word in ("any", "one", "span")))

    def test_in_large_books(self):
        for chance, count, offers, weights in large_books():
            self.walked(count, offers, samples.some_event(chance, count), samples.some_row(chance, count))

    def test_a_beaten_book_is_refused(self):
        chance = samples.chances()
        for count in COUNTS:
            offers = samples.beaten_offers(chance, count, 4)
            for event in (None, (), (0,)):
                self.no_fair(count, offers, called_off, event, samples.some_row(chance, count))


class HandedLists(unittest.TestCase):
    def test_what_is_done_behind_changes_nothing_told(self):
        offers = [(row_of(1, 0, 0), (1, 2), (1, 2), None), (row_of(0, 1, 0), (1, 3), (1, 4), None)]
        told = [
            shares(3, offers, (0, 1)), learned(3, offers, (0, 1), row_of(1, 2, 3)),
            left(3, offers, (0, 1), row_of(1, 0, 0)), called_off(3, offers, (0, 1), row_of(1, 2, 3)),
        ]
        kept = copy.deepcopy(told)
        offers.clear()
        self.assertEqual(told, kept)


if __name__ == "__main__":
    unittest.main()
