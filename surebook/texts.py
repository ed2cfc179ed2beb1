"""Books as texts: a row with the names of the worlds, then a row for each offer."""

from surebook.errors import NoText
from surebook.offers import ASK, BID, EVENT, ROW
from surebook.words import is_name, read_ratio, show_ratio

LEAST_WORLDS = 2
MOST_WORLDS = 12
MOST_OFFERS = 12
PRICE_WORDS = ((), ("ask",), ("bid",), ("ask", "bid"))


def event_of(names, words):
    """The event of the worlds that the words name, or None where they are not some of the names in their order."""
    worlds = [names.index(word) for word in words if word in names]
    if len(worlds) < len(words) or worlds != sorted(set(worlds)):
        return None
    return tuple(worlds)


def read_names(row):
    """The names of the worlds, or None where the row is bad."""
    words = row.split(" ")
    names = words[1:]
    if words[0] != "worlds" or not LEAST_WORLDS <= len(names) <= MOST_WORLDS:
        return None
    if len(set(names)) < len(names) or not all([is_name(name) for name in names]):
        return None
    return names


def read_row(words):
    """The row that the words tell, or None where one is no ratio."""
    worths = [read_ratio(word) for word in words]
    return None if None in worths else tuple(worths)


def read_prices(words):
    """Ask and bid, as the words tell them, or None where the words are no such."""
    prices = read_row(words[1::2])
    if tuple(words[::2]) not in PRICE_WORDS or len(words) % 2 == 1 or prices is None:
        return None
    told = dict(zip(words[::2], prices))
    return (told.get("ask"), told.get("bid"))


def read_offer(names, row):
    """The offer, or None where the row is bad."""
    words = row.split(" ")
    told = words[1:1 + len(names)]
    rest = words[1 + len(names):]
    # A world may be called if as well, so the first one is the word and all behind it are names.
    place = rest.index("if") if "if" in rest else len(rest)
    worths = read_row(told)
    prices = read_prices(rest[:place])
    event = event_of(names, rest[place + 1:])
    if words[0] != "offer" or len(told) < len(names) or worths is None or prices is None:
        return None
    if "if" not in rest:
        return (worths, prices[0], prices[1], None)
    return (worths, prices[0], prices[1], event) if event else None


def read_rows(rows):
    """The names and the offers of a book that is told row by row."""
    names = read_names(rows[0])
    if names is None:
        raise NoText(0)
    offers = []
    for at, row in enumerate(rows[1:], start=1):
        offer = read_offer(names, row) if at <= MOST_OFFERS else None
        if offer is None:
            raise NoText(at)
        offers.append(offer)
    return (names, offers)


def read(text):
    return read_rows(text.split("\n"))


def show_offer(names, offer):
    words = ["offer"] + [show_ratio(worth) for worth in offer[ROW]]
    if offer[ASK] is not None:
        words.extend(["ask", show_ratio(offer[ASK])])
    if offer[BID] is not None:
        words.extend(["bid", show_ratio(offer[BID])])
    if offer[EVENT] is not None:
        words.append("if")
        words.extend([names[world] for world in offer[EVENT]])
    return " ".join(words)


def shown(names, offers):
    rows = [" ".join(["worlds"] + list(names))]
    rows.extend([show_offer(names, offer) for offer in offers])
    return "\n".join(rows)
