"""The corners of a small book: fitting weights that lie in the middle of no two others.

They are found by cutting. Without offers the corners are the weights that give one world all. Then, gain by gain, the
corners under which the gain has a mean above nought go, and new ones come on the lines on which they lay.
"""

from surebook.offers import gains
from surebook.ratios import NOUGHT, ONE, minus, parted, under
from surebook.rows import added, mean, multiplied, paper_of


def touched(edges, corner):
    """The places of those edges on which the corner lies."""
    return [place for place, edge in enumerate(edges) if mean(corner, edge) == NOUGHT]


def are_neighbours(touching, one, other):
    """Whether the line between two corners is all that lies on the edges of both."""
    both = [place for place in touching[one] if place in touching[other]]
    beside = [corner for corner in touching if all([place in touching[corner] for place in both])]
    return len(beside) == 2


def crossing(one, other, row):
    """The weights on the line between two corners under which the row has the mean nought."""
    spare = mean(one, row)
    by = parted(spare, minus(spare, mean(other, row)))
    return added(multiplied(one, minus(ONE, by)), multiplied(other, by))


def cut_off(found, edges, row):
    """The corners of what is left where the row is to have no mean above nought."""
    touching = dict([(corner, touched(edges, corner)) for corner in found])
    inside = [corner for corner in found if under(mean(corner, row), NOUGHT)]
    outside = [corner for corner in found if under(NOUGHT, mean(corner, row))]
    kept = [corner for corner in found if corner not in outside]
    for one in inside:
        near = [other for other in outside if are_neighbours(touching, one, other)]
        kept.extend([crossing(one, other, row) for other in near])
    return kept


def is_ahead(one, other):
    for mine, theirs in zip(one, other):
        if mine != theirs:
            return under(mine, theirs)
    return False


def rising(rows):
    """The rows, no two alike, each behind all that are ahead of it."""
    return sorted(rows, key=lambda row: len([other for other in rows if is_ahead(other, row)]))


def corners(count, offers):
    # A world's paper is its own weights, and the edge on which it has no weight.
    papers = [paper_of(count, (world,)) for world in range(count)]
    found = papers
    edges = papers
    for row in gains(offers):
        found = cut_off(found, edges, row)
        edges = edges + [row]
    return rising(found)
