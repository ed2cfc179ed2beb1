"""Ratios and names as words."""

from surebook.ratios import ratio

FIGURES = "0123456789"
MOST_FIGURES = 30
MOST_LETTERS = 8


def show_ratio(one):
    top = one[0]
    bottom = one[1]
    return str(top) if bottom == 1 else f"{top}/{bottom}"


def read_figures(text):
    """The whole number of one to thirty figures, perhaps behind a -, or None where the text is none such."""
    figures = text[1:] if text.startswith("-") else text
    if not 1 <= len(figures) <= MOST_FIGURES or any([sign not in FIGURES for sign in figures]):
        return None
    return int(text)


def read_ratio(text):
    parts = text.partition("/")
    top = read_figures(parts[0])
    bottom = read_figures(parts[2]) if parts[1] == "/" else 1
    if top is None or bottom is None or bottom == 0:
        return None
    one = ratio(top, bottom)
    # A ratio is written in one way alone; all else that stands for it is none.
    return one if show_ratio(one) == text else None


def is_name(text):
    return 1 <= len(text) <= MOST_LETTERS and all(["a" <= sign <= "z" for sign in text])
