"""Books, lists of offers, judged as fair or beaten."""

from surebook.errors import NoFair
from surebook.offers import gains
from surebook.ratios import NOUGHT, common_bottom, whole_by
from surebook.rows import is_weights
from surebook.solver import loads_fit, solve


def fits(offers, weights):
    return is_weights(weights) and loads_fit(weights, gains(offers))


def made_whole(multiples):
    # What gains in every world does so multiplied, too.
    return whole_by(multiples, common_bottom(multiples))


def judged(count, offers):
    found = solve(count, gains(offers), None, (NOUGHT,) * count)
    if found[0] == "none":
        return ("beaten", made_whole(found[1]))
    return ("fair", found[2])


def refuse_beaten(count, offers):
    told = judged(count, offers)
    if told[0] == "beaten":
        raise NoFair(told[1])
