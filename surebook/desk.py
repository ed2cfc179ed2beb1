"""A desk, which keeps books by names, is told rows of words, and answers each with a text."""

from surebook.books import judged
from surebook.errors import NoChance, NoName, NoRow
from surebook.joins import joined
from surebook.learning import learned
from surebook.offers import as_ratio
from surebook.prices import lower, upper
from surebook.texts import LEAST_WORLDS, MOST_WORLDS, event_of, read_row, read_rows
from surebook.thinning import sides_left
from surebook.words import is_name, read_ratio, show_ratio


def due_names(words, least, most):
    """The words, where they are names, at least and at most so many."""
    if not least <= len(words) <= most or not all([is_name(word) for word in words]):
        raise NoRow("other names are due in the row")
    return words


def due_name(words):
    """The name behind the first word."""
    return due_names(words[1:2], 1, 1)[0]


def due_row(words):
    """The row of a book's worlds, whatever book it may be, that the words tell."""
    row = read_row(words)
    if row is None or not LEAST_WORLDS <= len(row) <= MOST_WORLDS:
        raise NoRow("other ratios are due in the row")
    return row


def place_of_for(words):
    """The place of the last word that is no ratio, which is to be for."""
    places = [place for place, word in enumerate(words) if read_ratio(word) is None]
    if places == [] or words[places[-1]] != "for":
        raise NoRow("the word for is due ahead of the ratios")
    return places[-1]


def refuse_other_count(names, row):
    if len(row) != len(names):
        raise NoRow("the book has not as many worlds as ratios are told")


def spoken_prices(low, high):
    least = show_ratio(low)
    greatest = show_ratio(high)
    return f"from {least} to {greatest}"


class Desk:
    def __init__(self):
        self.books = {}

    def say(self, row):
        words = row.split(" ")
        if words[0] == "book":
            return self.put_book(row)
        if words[0] == "judge":
            return self.judge(words)
        if words[0] == "price":
            return self.price(words)
        if words[0] == "join":
            return self.join_books(words)
        if words[0] == "thin":
            return self.thin(words)
        if words[0] == "learn":
            return self.learn(words)
        raise NoRow("the first word is none that the desk knows")

    def book_of(self, name):
        if name not in self.books:
            raise NoName("no book stands by this name")
        return self.books[name]

    def put_book(self, row):
        # All behind the second blank is the text, blanks at its ends too: whether they may be there it is for the
        # text's own rules to say.
        words = row.split(" ", 2)
        name = due_name(words)
        if len(words) < 3:
            raise NoRow("a text is due behind the name")
        self.books[name] = read_rows(words[2].split("; "))
        return "ok"

    def judge(self, words):
        name = due_names(words[1:], 1, 1)[0]
        book = self.book_of(name)
        told = judged(len(book[0]), book[1])
        return " ".join([told[0]] + [show_ratio(as_ratio(one)) for one in told[1]])

    def price(self, words):
        name = due_name(words)
        row = due_row(words[2:])
        book = self.book_of(name)
        refuse_other_count(book[0], row)
        low = lower(len(row), book[1], row)[0]
        return spoken_prices(low, upper(len(row), book[1], row)[0])

    def join_books(self, words):
        names = due_names(words[1:], 3, 3)
        one = self.book_of(names[1])
        other = self.book_of(names[2])
        if one[0] != other[0]:
            raise NoName("the books have not the same worlds in the same order")
        self.books[names[0]] = (one[0], joined(one[1], other[1]))
        return "ok"

    def thin(self, words):
        name = due_names(words[1:], 1, 1)[0]
        book = self.book_of(name)
        places = sides_left(len(book[0]), book[1])
        return " ".join([str(place) for place in places]) if places else "none"

    def learn(self, words):
        name = due_name(words)
        place = 2 + place_of_for(words[2:])
        worlds = due_names(words[2:place], 1, MOST_WORLDS)
        row = due_row(words[place + 1:])
        book = self.book_of(name)
        refuse_other_count(book[0], row)
        event = event_of(book[0], worlds)
        if event is None:
            raise NoName("the worlds are not some of the book's in its order")
        try:
            prices = learned(len(row), book[1], event, row)
        except NoChance:
            return "never"
        return spoken_prices(prices[0], prices[1])
