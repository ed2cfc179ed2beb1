"""Two books put together, and the row that parts them where no weights fit both."""

from surebook.books import judged
from surebook.offers import come_to, gains
from surebook.prices import lower, upper


def joined(one, other):
    return list(one) + list(other)


def parting(count, one, other):
    told = judged(count, joined(one, other))
    if told[0] == "fair":
        return None
    # Together the multiples gain in every world. Weights that fit the second book give its own part of that no mean
    # above nought, so they give the first book's part one; weights that fit the first book do not.
    mine = gains(one)
    row = come_to(count, mine, told[1][:len(mine)])
    # A beaten book has no prices and is refused here; asked in this order it is the first that is.
    high = upper(count, one, row)[0]
    low = lower(count, other, row)[0]
    return (row, high, low)
