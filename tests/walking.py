"""Walks through answers of the program step by step, in Fractions, with nothing of the program's own."""

import copy
import unittest
from fractions import Fraction

import samples
from samples import worths


def amount(multiple):
    """A multiple told as a whole number or as a ratio."""
    return Fraction(multiple) if samples.is_whole(multiple) else samples.worth_of(multiple)


def come_to(count, rows, multiples):
    so_far = [Fraction(0)] * count
    for row, multiple in zip(rows, multiples):
        so_far = [one + amount(multiple) * worth for one, worth in zip(so_far, worths(row))]
    return so_far


def inside(count, event):
    return range(count) if event is None else event


def outside(count, event):
    return [world for world in range(count) if world not in inside(count, event)]


def share(loads, event):
    return sum(worths(loads)[world] for world in inside(len(loads), event))


def fit(loads, rows):
    return all(samples.mean_under(loads, row) <= 0 for row in rows)


def are_weights(row):
    return all(worth >= 0 for worth in worths(row)) and sum(worths(row)) == 1


class Walking(unittest.TestCase):
    def asked(self, ask, *handed):
        """The answer; asked twice, and what was handed in looked through behind it."""
        kept = copy.deepcopy(handed)
        told = ask(*handed)
        self.assertEqual(handed, kept)
        again = ask(*handed)
        self.assertEqual(again, told)
        return told

    def are_multiples(self, multiples, many):
        self.assertIs(type(multiples), list)
        self.assertEqual(len(multiples), many)
        for multiple in multiples:
            self.assertTrue(samples.is_ratio(multiple), multiple)
            self.assertGreaterEqual(multiple[0], 0)

    def are_whole_multiples(self, multiples, many):
        self.assertIs(type(multiples), list)
        self.assertEqual(len(multiples), many)
        for multiple in multiples:
            self.assertTrue(samples.is_whole(multiple), multiple)
            self.assertGreaterEqual(multiple, 0)

    def are_loads(self, loads, count):
        self.assertTrue(samples.is_row(loads, count), loads)
        self.assertTrue(all(load >= 0 for load in worths(loads)), loads)

    def bars_event(self, count, rows, event, multiples):
        """Multiples that come to at least 1 in the event's worlds, and to nothing below nought elsewhere."""
        self.are_multiples(multiples, len(rows))
        sums = come_to(count, rows, multiples)
        for world in inside(count, event):
            self.assertGreaterEqual(sums[world], 1)
        for world in outside(count, event):
            self.assertGreaterEqual(sums[world], 0)

    def is_none(self, count, rows, event, told):
        self.assertIs(type(told), tuple)
        self.assertEqual(len(told), 2)
        self.assertEqual(told[0], "none")
        self.bars_event(count, rows, event, told[1])

    def is_most(self, count, rows, event, aim, told):
        self.assertIs(type(told), tuple)
        self.assertEqual(len(told), 4)
        word, value, loads, multiples = told
        self.assertEqual(word, "most")
        self.assertTrue(samples.is_ratio(value), value)
        self.are_loads(loads, count)
        self.assertTrue(fit(loads, rows))
        self.assertEqual(share(loads, event), 1)
        worth = samples.worth_of(value)
        self.assertEqual(worth, sum(worths(loads)[world] * worths(aim)[world] for world in inside(count, event)))
        self.are_multiples(multiples, len(rows))
        sums = come_to(count, rows, multiples)
        for world in inside(count, event):
            self.assertGreaterEqual(worth + sums[world], worths(aim)[world])
        for world in outside(count, event):
            self.assertGreaterEqual(sums[world], 0)
