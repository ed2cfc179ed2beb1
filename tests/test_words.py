import unittest
from fractions import Fraction
from math import gcd

import samples
from samples import of
from surebook.words import is_name, read_ratio, show_ratio

LONG = 10 ** 30 - 1


def figures(chance, many):
    """A whole number with so many figures."""
    return chance.randint(10 ** (many - 1), 10 ** many - 1)


def some_long_ratio(chance, many, below):
    while True:
        top, bottom = chance.choice([-1, 1]) * figures(chance, many), figures(chance, below)
        if gcd(top, bottom) == 1:
            return (top, bottom)


class Shown(unittest.TestCase):
    def test_by_hand(self):
        for one, right in (
            ((0, 1), "0"), ((7, 1), "7"), ((-7, 1), "-7"), ((10, 1), "10"), ((1, 2), "1/2"), ((-1, 2), "-1/2"),
            ((100, 7), "100/7"), ((7, 100), "7/100"), ((1, 10), "1/10"), ((-10, 1), "-10"),
        ):
            told = show_ratio(one)
            self.assertIs(type(told), str)
            self.assertEqual(told, right)

    def test_with_all_figures(self):
        for many in (30, 31, 100, 1000, 4000):
            top, bottom = "1" * many, "9" * (many - 1) + "8"
            one = (int(top), int(bottom))
            if gcd(*one) == 1:
                self.assertEqual(show_ratio(one), f"{top}/{bottom}")
            self.assertEqual(show_ratio((int(top), 1)), top)
            self.assertEqual(show_ratio((-1, int(bottom))), f"-1/{bottom}")


class Read(unittest.TestCase):
    def is_read(self, text, right):
        told = read_ratio(text)
        self.assertTrue(samples.is_ratio(told), text)
        self.assertEqual(told, right)

    def are_none(self, *texts):
        for text in texts:
            with self.subTest(text=text):
                self.assertIsNone(read_ratio(text))

    def test_by_hand(self):
        for text, right in (
            ("0", (0, 1)), ("1", (1, 1)), ("-1", (-1, 1)), ("10", (10, 1)), ("1/2", (1, 2)), ("-3/2", (-3, 2)),
            ("7/100", (7, 100)), ("-100/7", (-100, 7)), ("20/3", (20, 3)), ("3/20", (3, 20)),
        ):
            self.is_read(text, right)

    def test_shown_and_read_again(self):
        for top in range(-30, 31):
            for bottom in range(1, 31):
                one = of(Fraction(top, bottom))
                self.is_read(show_ratio(one), one)

    def test_written_otherwise_it_is_none(self):
        for top in range(-12, 13):
            for bottom in range(1, 13):
                if bottom == 1 or gcd(top, bottom) > 1:
                    self.are_none(f"{top}/{bottom}")

    def test_one_to_thirty_figures(self):
        chance = samples.chances()
        for many in range(1, 31):
            for below in (many, 30, 1):
                one = some_long_ratio(chance, many, below)
                self.is_read(show_ratio(one), one)
        for one in ((LONG, 1), (-LONG, 1), (LONG, LONG - 1), (-LONG, LONG - 1), (1, LONG), (-1, LONG)):
            self.is_read(show_ratio(one), one)

    def test_thirty_one_figures(self):
        more = LONG + 1
        self.assertEqual(len(str(more)), 31)
        self.are_none(f"{more}", f"-{more}", f"{more}/7", f"-{more}/7", f"1/{more}", f"-1/{more}", f"{more}/{more + 1}")
        self.are_none("1" * 100, "0" * 31, "1/" + "3" * 31)

    def test_not_in_lowest_terms(self):
        self.are_none("2/4", "-2/4", "3/1", "-3/1", "0/5", "0/1", "1/1", "6/3", "10/100", "0/0", "1/0", "-0/1")

    def test_signs(self):
        self.are_none("+1", "+1/2", "1/-2", "1/+2", "-1/-2", "--1", "-", "-/2", "- 1", "1-", "1/2-", "-+1")

    def test_nought(self):
        self.are_none("-0", "00", "000", "-00", "+0", "0/2", "-0/2", "00/1", "0/01")

    def test_nought_ahead_of_others(self):
        self.are_none("01", "-01", "001", "01/2", "1/02", "-01/2", "1/00")

    def test_blanks_and_line_ends(self):
        self.are_none("", " ", "  ", " 1", "1 ", "1 /2", "1/ 2", " 1/2", "1/2 ", "1 2", "- 1")
        self.are_none("\n", "1\n", "\n1", "1/2\n", "1\n/2", "\t1")

    def test_other_signs(self):
        self.are_none("/", "1/", "/2", "1//2", "1/2/3", "1/2/", "//", "1/2a", "a/2", "1/a")
        self.are_none("a", "1a", "a1", "1.5", "1,5", "1_000", "1e3", "0x1", "1\\2", "(1)", "one", "None", "1;", "~")

    def test_figures_of_other_scripts(self):
        self.are_none("\u0661", "\u00b2", "1/\u0662", "\uff11")


class Names(unittest.TestCase):
    def test_one_to_eight_letters(self):
        for name in ("a", "z", "ask", "if", "abcdefgh", "zzzzzzzz", "mnopqrst"):
            self.assertIs(is_name(name), True)

    def test_no_names(self):
        for name in ("", "abcdefghi", "A", "aB", "a1", "1", "a-b", "a_b", " a", "a ", "a b", "a;", "`", "{", "a\n"):
            self.assertIs(is_name(name), False)


if __name__ == "__main__":
    unittest.main()
