"""Mixes of rows, and the mix of a small book's corners that makes given weights."""

from surebook.books import fits
from surebook.corners import corners
from surebook.offers import come_to, gains
from surebook.ratios import NOUGHT, least_of, minus, parted
from surebook.rows import added, mean, multiplied, paper_of, turned


def made(count, rows, mix):
    return come_to(count, rows, mix)


def edges_of(count, offers):
    """The rows that have no mean below nought under any loads that fit."""
    return [paper_of(count, (world,)) for world in range(count)] + [turned(row) for row in gains(offers)]


def most_of(corner, loads, edges):
    """The greatest multiple of the corner without which the loads still fit."""
    bounding = [edge for edge in edges if mean(corner, edge) != NOUGHT]
    return least_of([parted(mean(loads, edge), mean(corner, edge)) for edge in bounding])


def mix_of(count, offers, weights):
    if not fits(offers, weights):
        return None
    edges = edges_of(count, offers)
    rest = weights
    mix = []
    # Behind each step the rest lies on an edge on which the corner does not, and all later rests lie there, too: so no
    # corner is needed a second time, and behind the last one nothing is left.
    for corner in corners(count, offers):
        by = most_of(corner, rest, edges)
        rest = added(rest, multiplied(corner, minus(NOUGHT, by)))
        mix.append(by)
    return mix
