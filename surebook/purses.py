"""Purses of coin and papers, and how multiples of offers insure them."""

from surebook.offers import come_to, gains
from surebook.prices import lower
from surebook.ratios import NOUGHT, least_of, minus, plus
from surebook.rows import added


class Purse:
    def __init__(self, count, coin):
        self.money = coin
        self.holding = (NOUGHT,) * count

    def take(self, row, price):
        self.holding = added(self.holding, row)
        self.money = minus(self.money, price)

    def coin(self):
        return self.money

    def held(self):
        return self.holding

    def worth(self, world):
        return plus(self.money, self.holding[world])

    def worst(self):
        return plus(self.money, least_of(self.holding))

    def insure(self, offers):
        count = len(self.holding)
        # These multiples show the lower price: with them what is held is nowhere below it. No others do more, as some
        # fitting weights give it this mean, and none give what is added a mean above nought.
        multiples = lower(count, offers, self.holding)[1]
        self.holding = added(self.holding, come_to(count, gains(offers), multiples))
        return multiples
