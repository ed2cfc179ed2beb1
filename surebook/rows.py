"""Rows, a ratio for each world, and events, rising tuples of worlds or None for all."""

from surebook.ratios import NOUGHT, ONE, common_bottom, plus, ratio, times, under, whole_by


def added(one, other):
    return tuple([plus(mine, theirs) for mine, theirs in zip(one, other)])


def multiplied(row, by):
    return tuple([times(worth, by) for worth in row])


def turned(row):
    return multiplied(row, (-1, 1))


def covers(one, other):
    return not any([under(mine, theirs) for mine, theirs in zip(one, other)])


def total(worths):
    so_far = NOUGHT
    for worth in worths:
        so_far = plus(so_far, worth)
    return so_far


def mean(weights, row):
    # Reckoned in whole numbers, so that lowest terms, which take long of long numbers, are sought once alone.
    mine = common_bottom(weights)
    theirs = common_bottom(row)
    products = [one * other for one, other in zip(whole_by(weights, mine), whole_by(row, theirs))]
    return ratio(sum(products), mine * theirs)


def is_weights(row):
    # Coming to 1 is not enough: what is below nought in one world may be made up in another.
    return not any([under(weight, NOUGHT) for weight in row]) and total(row) == ONE


def is_in(world, event):
    return event is None or world in event


def cut(row, event):
    return tuple([worth if is_in(world, event) else NOUGHT for world, worth in enumerate(row)])


def paper_of(count, event):
    return cut((ONE,) * count, event)


def meet(one, other):
    # None is all worlds, so the other event alone decides; None and None stay None.
    if one is None:
        return other
    if other is None:
        return one
    return tuple([world for world in one if world in other])
