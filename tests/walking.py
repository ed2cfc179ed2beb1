"""Walks through answers of the program step by step, in Fractions, with nothing of the program's own reckoning."""

import copy
import itertools
import unittest
from fractions import Fraction

import samples
from samples import worths
from surebook.errors import NoFair
from surebook.prices import lower, upper


def amount(multiple):
    """A multiple told as a whole number or as a ratio."""
    return Fraction(multiple) if samples.is_whole(multiple) else samples.worth_of(multiple)


def inside(count, event):
    return range(count) if event is None else event


def gain(offer, word):
    row, ask, bid, event = offer
    told = [Fraction(0)] * len(row)
    for world in inside(len(row), event):
        worth = samples.worth_of(row[world])
        told[world] = worth - samples.worth_of(ask) if word == "buy" else samples.worth_of(bid) - worth
    return samples.row_of(*told)


def sides(offers):
    told = []
    for number, (row, ask, bid, event) in enumerate(offers):
        told += [(number, "buy")] if ask is not None else []
        told += [(number, "sell")] if bid is not None else []
    return told


def gains(offers):
    return [gain(offers[number], word) for number, word in sides(offers)]


def come_to(count, rows, multiples):
    so_far = [Fraction(0)] * count
    for row, multiple in zip(rows, multiples):
        so_far = [one + amount(multiple) * worth for one, worth in zip(so_far, worths(row))]
    return so_far


def outside(count, event):
    return [world for world in range(count) if world not in inside(count, event)]


def share(loads, event):
    return sum(worths(loads)[world] for world in inside(len(loads), event))


def fit(loads, rows):
    return all(samples.mean_under(loads, row) <= 0 for row in rows)


def are_weights(row):
    return all(worth >= 0 for worth in worths(row)) and sum(worths(row)) == 1


def solved(rows, ends):
    """The one solution of as many equations as unknowns, or None."""
    size = len(rows)
    table = [list(row) + [end] for row, end in zip(rows, ends)]
    for column in range(size):
        place = next((place for place in range(column, size) if table[place][column] != 0), None)
        if place is None:
            return None
        table[column], table[place] = table[place], table[column]
        table[column] = [number / table[column][column] for number in table[column]]
        for other in range(size):
            by = table[other][column]
            if other != column and by != 0:
                table[other] = [mine - by * theirs for mine, theirs in zip(table[other], table[column])]
    return [line[-1] for line in table]


def rank(rows):
    """How many of the rows say something that the others do not."""
    left = [list(row) for row in rows]
    found = 0
    while left:
        line = left.pop()
        place = next((place for place, number in enumerate(line) if number != 0), None)
        if place is not None:
            found += 1
            key = line[place]
            left = [[mine - row[place] / key * theirs for mine, theirs in zip(row, line)] for row in left]
    return found


def edges(count, rows):
    return [[Fraction(int(world == one)) for world in range(count)] for one in range(count)] + list(map(worths, rows))


def lie_in_no_middle(weights, rows):
    """Whether the edges on which the weights lie leave no way to move both forth and back."""
    touched = [
        edge for edge in edges(len(weights), rows)
        if sum(weight * number for weight, number in zip(worths(weights), edge)) == 0
    ]
    return rank([[Fraction(1)] * len(weights)] + touched) == len(weights)


def corners(count, rows):
    """All corners of the fitting weights, tried out one choice of edges after another: for few worlds and gains."""
    found = {}
    for chosen in itertools.combinations(edges(count, rows), count - 1):
        weights = solved([[Fraction(1)] * count] + list(chosen), [Fraction(1)] + [Fraction(0)] * (count - 1))
        if weights is not None and all(weight >= 0 for weight in weights):
            row = samples.row_of(*weights)
            if fit(row, rows):
                found[row] = True
    return list(found)


def left_of(weights, event):
    """The weights cut to the event and divided by its share."""
    given = share(weights, event)
    among = inside(len(weights), event)
    return samples.row_of(*[weight / given if world in among else 0 for world, weight in enumerate(worths(weights))])


class Walking(unittest.TestCase):
    def asked(self, ask, *handed):
        """The answer; asked twice, and what was handed in looked through behind it."""
        kept = copy.deepcopy(handed)
        told = ask(*handed)
        self.assertEqual(handed, kept)
        again = ask(*handed)
        self.assertEqual(again, told)
        return told

    def refused(self, kind, ask, *handed):
        """The refusal; what was done to the list of the one ahead of it must not be seen in it."""
        kept = copy.deepcopy(handed)
        with self.assertRaises(kind) as first:
            ask(*handed)
        self.assertEqual(handed, kept)
        right = list(first.exception.multiples)
        first.exception.multiples.append("more")
        with self.assertRaises(kind) as again:
            ask(*handed)
        self.assertEqual(again.exception.multiples, right)
        return again.exception

    def are_multiples(self, multiples, many):
        self.assertIs(type(multiples), list)
        self.assertEqual(len(multiples), many)
        for multiple in multiples:
            self.assertTrue(samples.is_ratio(multiple), multiple)
            self.assertGreaterEqual(multiple[0], 0)

    def are_whole_multiples(self, multiples, many):
        self.assertIs(type(multiples), list)
        self.assertEqual(len(multiples), many)
        for multiple in multiples:
            self.assertTrue(samples.is_whole(multiple), multiple)
            self.assertGreaterEqual(multiple, 0)

    def gain_everywhere(self, count, rows, multiples):
        self.are_whole_multiples(multiples, len(rows))
        self.assertTrue(all(worth > 0 for worth in come_to(count, rows, multiples)))

    def are_fitting(self, weights, count, rows):
        self.assertTrue(samples.is_row(weights, count), weights)
        self.assertTrue(are_weights(weights), weights)
        self.assertTrue(fit(weights, rows), weights)

    def no_fair(self, count, offers, ask, *handed):
        """Asked of a beaten book."""
        refusal = self.refused(NoFair, ask, count, offers, *handed)
        self.gain_everywhere(count, gains(offers), refusal.multiples)

    def are_loads(self, loads, count):
        self.assertTrue(samples.is_row(loads, count), loads)
        self.assertTrue(all(load >= 0 for load in worths(loads)), loads)

    def bars_event(self, count, rows, event, multiples):
        """Multiples that come to at least 1 in the event's worlds, and to nothing below nought elsewhere."""
        self.are_multiples(multiples, len(rows))
        sums = come_to(count, rows, multiples)
        for world in inside(count, event):
            self.assertGreaterEqual(sums[world], 1)
        for world in outside(count, event):
            self.assertGreaterEqual(sums[world], 0)

    def is_none(self, count, rows, event, told):
        self.assertIs(type(told), tuple)
        self.assertEqual(len(told), 2)
        self.assertEqual(told[0], "none")
        self.bars_event(count, rows, event, told[1])

    def is_most(self, count, rows, event, aim, told):
        self.assertIs(type(told), tuple)
        self.assertEqual(len(told), 4)
        word, value, loads, multiples = told
        self.assertEqual(word, "most")
        self.assertTrue(samples.is_ratio(value), value)
        self.are_loads(loads, count)
        self.assertTrue(fit(loads, rows))
        self.assertEqual(share(loads, event), 1)
        worth = samples.worth_of(value)
        self.assertEqual(worth, sum(worths(loads)[world] * worths(aim)[world] for world in inside(count, event)))
        self.are_multiples(multiples, len(rows))
        sums = come_to(count, rows, multiples)
        for world in inside(count, event):
            self.assertGreaterEqual(worth + sums[world], worths(aim)[world])
        for world in outside(count, event):
            self.assertGreaterEqual(sums[world], 0)

    def price(self, ask, count, offers, row):
        """Walks through the upper or the lower price, and tells it."""
        told = self.asked(ask, count, offers, row)
        self.assertIs(type(told), tuple)
        self.assertEqual(len(told), 3)
        self.assertTrue(samples.is_ratio(told[0]), told)
        price, multiples, weights = samples.worth_of(told[0]), told[1], told[2]
        rows = gains(offers)
        self.are_fitting(weights, count, rows)
        self.assertEqual(samples.mean_under(weights, row), price)
        self.are_multiples(multiples, len(rows))
        for worth, gained in zip(worths(row), come_to(count, rows, multiples)):
            if ask == upper:
                self.assertGreaterEqual(price + gained, worth)
            else:
                self.assertGreaterEqual(worth + gained, price)
        return price

    def prices(self, count, offers, row):
        low, high = self.price(lower, count, offers, row), self.price(upper, count, offers, row)
        self.assertLessEqual(low, high)
        return (low, high)
