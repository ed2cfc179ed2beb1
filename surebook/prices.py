"""The prices of a row in a fair book, from above and from below, and the worlds that the book bars."""

from surebook.books import made_whole, refuse_beaten
from surebook.errors import NoFair
from surebook.offers import gains
from surebook.ratios import NOUGHT, minus
from surebook.rows import turned
from surebook.solver import solve


def upper(count, offers, row):
    found = solve(count, gains(offers), None, row)
    if found[0] == "none":
        raise NoFair(made_whole(found[1]))
    return (found[1], found[3], found[2])


def lower(count, offers, row):
    # The least mean of a row is the greatest of the turned row, turned.
    told = upper(count, offers, turned(row))
    return (minus(NOUGHT, told[0]), told[1], told[2])


def barred(count, offers):
    refuse_beaten(count, offers)
    rows = gains(offers)
    told = []
    for world in range(count):
        # Fitting weights that give the world a share, divided by it, would be loads that lie on it.
        found = solve(count, rows, (world,), (NOUGHT,) * count)
        if found[0] == "none":
            told.append((world, found[1]))
    return told
