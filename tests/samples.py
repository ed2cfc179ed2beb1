"""What several test files need: sample ratios and rows, and checks of their form."""

import math
import random
from fractions import Fraction

COUNTS = range(2, 13)


def is_whole(value):
    return isinstance(value, int) and not isinstance(value, bool)


def is_ratio(value):
    return (
        type(value) is tuple
        and len(value) == 2
        and is_whole(value[0])
        and is_whole(value[1])
        and value[1] >= 1
        and math.gcd(value[0], value[1]) == 1
    )


def is_row(value, count):
    return type(value) is tuple and len(value) == count and all(is_ratio(worth) for worth in value)


def of(fraction):
    """The ratio of a Fraction or a whole number."""
    fraction = Fraction(fraction)
    return (fraction.numerator, fraction.denominator)


def worth_of(one):
    return Fraction(one[0], one[1])


def worths(row):
    return [worth_of(worth) for worth in row]


def row_of(*fractions):
    return tuple(of(fraction) for fraction in fractions)


def some_fraction(chance, size=12):
    return Fraction(chance.randint(-size, size), chance.randint(1, size))


def some_row(chance, count):
    return tuple(of(some_fraction(chance)) for world in range(count))


def some_weights(chance, count):
    loads = [chance.randint(0, 9) for world in range(count)]
    loads[chance.randrange(count)] += 1
    return tuple(of(Fraction(load, sum(loads))) for load in loads)


def some_event(chance, count):
    """Some worlds, at least one."""
    return tuple(sorted(chance.sample(range(count), chance.randint(1, count))))


def mean_under(weights, row):
    return sum(weight * worth for weight, worth in zip(worths(weights), worths(row)))


def fitting_gain(chance, weights, row=None, slack=None):
    """A row moved alike in all worlds until its mean under the weights is nought, or a slack below it."""
    row = some_row(chance, len(weights)) if row is None else row
    slack = chance.choice([0, 0, Fraction(1, 7), 3]) if slack is None else slack
    by = mean_under(weights, row) / sum(worths(weights)) + slack
    return row_of(*[worth - by for worth in worths(row)])


def fitting_gains(chance, weights, many):
    return [fitting_gain(chance, weights) for turn in range(many)]


def some_offer(chance, count):
    ask = chance.choice([None, of(some_fraction(chance))])
    bid = chance.choice([None, of(some_fraction(chance))])
    event = chance.choice([None, (), tuple(range(count)), some_event(chance, count)])
    return (some_row(chance, count), ask, bid, event)


def some_offers(chance, count, many):
    return [some_offer(chance, count) for turn in range(many)]


def fair_offer(chance, weights, spread):
    """An offer that these weights fit, by nothing to spare where the spread is nought."""
    count = len(weights)
    row = some_row(chance, count)
    event = chance.choice([None, None, some_event(chance, count)])
    among = range(count) if event is None else event
    given = sum(worths(weights)[world] for world in among)
    price = Fraction(0)
    if given > 0:
        price = sum(worths(weights)[world] * worths(row)[world] for world in among) / given
    ask = chance.choice([None, of(price + spread), of(price + spread)])
    bid = chance.choice([None, of(price - spread), of(price - spread)])
    return (row, ask, bid, event)


def fair_offers(chance, weights, many, spread=None):
    spreads = [0, Fraction(1, 3), 2] if spread is None else [spread]
    return [fair_offer(chance, weights, chance.choice(spreads)) for turn in range(many)]


def beaten_offers(chance, count, many):
    """Offers, and behind them one that bids more than it asks."""
    offers = fair_offers(chance, some_weights(chance, count), many - 1)
    row = some_row(chance, count)
    price = some_fraction(chance)
    return offers + [(row, of(price), of(price + Fraction(1, chance.randint(1, 50))), None)]


def chances():
    # The seed is fixed: each run asks the same questions.
    return random.Random(20)
