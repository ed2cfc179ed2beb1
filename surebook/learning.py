"""What a fair book tells when an event is learned, and the prices of papers that are called off without it."""

from surebook.books import refuse_beaten
from surebook.errors import NoChance
from surebook.offers import come_to, gains
from surebook.prices import lower, upper
from surebook.ratios import NOUGHT, ONE, minus, parted
from surebook.rows import cut, is_in, mean, multiplied, paper_of, total, turned
from surebook.solver import solve


def shares(count, offers, event):
    paper = paper_of(count, event)
    return (lower(count, offers, paper)[0], upper(count, offers, paper)[0])


def greatest_left(count, offers, event, row):
    """The greatest mean of the row under weights left."""
    found = solve(count, gains(offers), event, row)
    if found[0] == "none":
        # A beaten book has no fitting loads at all, so it ends here, too.
        refuse_beaten(count, offers)
        raise NoChance(found[1])
    return found[1]


def learned(count, offers, event, row):
    greatest = greatest_left(count, offers, event, row)
    least = minus(NOUGHT, greatest_left(count, offers, event, turned(row)))
    return (least, greatest)


def folded(row, weights, outside):
    """The row with all worlds of the event folded into one, ahead of the worlds outside."""
    return (mean(weights, row),) + tuple([row[world] for world in outside])


def unfolded(loads, weights, outside):
    """The weights that come of these weights on the event, and of the folded loads outside of it."""
    filled = list(weights)
    for load, world in zip(loads[1:], outside):
        filled[world] = load
    return multiplied(tuple(filled), parted(ONE, total(filled)))


def left(count, offers, event, weights):
    outside = [world for world in range(count) if not is_in(world, event)]
    rows = gains(offers)
    # On the event the loads may be these weights alone; what they are outside of it is free.
    narrow = [folded(row, weights, outside) for row in rows]
    width = 1 + len(outside)
    found = solve(width, narrow, (0,), (NOUGHT,) * width)
    if found[0] == "none":
        return ("not", cut(come_to(count, rows, found[1]), event))
    return ("left", unfolded(found[2], weights, outside))


def called_off(count, offers, event, row):
    # Under weights that give the event nought the deal gains nothing, whatever its price.
    if lower(count, offers, paper_of(count, event))[0] == NOUGHT:
        return ("any",)
    prices = learned(count, offers, event, row)
    if prices[0] == prices[1]:
        return ("one", prices[0])
    return ("span", prices[0], prices[1])
