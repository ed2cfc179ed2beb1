"""Sides of a book that others make needless, and the sides left without them."""

from surebook.offers import gains
from surebook.ratios import NOUGHT, times, under
from surebook.solver import solve


def most_worth(row):
    """The greatest worth in the row, nought where all are below it."""
    most = NOUGHT
    for worth in row:
        if under(most, worth):
            most = worth
    return most


def covering(count, rows, row):
    """Multiples of the rows that come to a row which covers this one, or None where there are none."""
    found = solve(count, rows, None, row)
    if found[0] == "none":
        # These come to at least 1 in each world, so that many of them are enough.
        return [times(multiple, most_worth(row)) for multiple in found[1]]
    if under(NOUGHT, found[1]):
        return None
    return found[3]


def needless(count, offers, place):
    rows = gains(offers)
    multiples = covering(count, rows[:place] + rows[place + 1:], rows[place])
    if multiples is None:
        return None
    return multiples[:place] + [NOUGHT] + multiples[place:]


def sides_left(count, offers):
    rows = gains(offers)
    kept = list(range(len(rows)))
    for place, row in enumerate(rows):
        others = [other for other in kept if other != place]
        if covering(count, [rows[other] for other in others], row) is not None:
            kept = others
    return kept
