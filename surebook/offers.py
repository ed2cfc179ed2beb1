"""Offers of a stall, tuples (row, ask, bid, event), their sides, and what is gained by dealing."""

from surebook.ratios import is_whole, minus
from surebook.rows import cut, mean

ROW = 0
ASK = 1
BID = 2
EVENT = 3


def gain(offer, word):
    if word == "buy":
        worths = [minus(worth, offer[ASK]) for worth in offer[ROW]]
    else:
        worths = [minus(offer[BID], worth) for worth in offer[ROW]]
    return cut(tuple(worths), offer[EVENT])


def words_of(offer):
    told = []
    if offer[ASK] is not None:
        told.append("buy")
    if offer[BID] is not None:
        told.append("sell")
    return told


def sides(offers):
    told = []
    for number, offer in enumerate(offers):
        told.extend([(number, word) for word in words_of(offer)])
    return told


def gains(offers):
    return [gain(offers[number], word) for number, word in sides(offers)]


def as_ratio(multiple):
    # A beaten book tells its multiples as whole numbers, all else tells ratios; both are taken.
    return (multiple, 1) if is_whole(multiple) else multiple


def come_to(count, rows, multiples):
    taken = [as_ratio(multiple) for multiple in multiples]
    # World by world it is a sum of products like any mean.
    return tuple([mean(taken, [row[world] for row in rows]) for world in range(count)])
