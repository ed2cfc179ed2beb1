import unittest
from fractions import Fraction

import samples
from surebook.tables import driven, end_of, exchanged, first_table, going_out, helping, number_at


def some_lines(chance, width, many):
    lines = [[chance.randint(-4, 4) for place in range(width)] + [0] for turn in range(many)]
    lines.append([chance.randint(0, 1) for place in range(width)] + [1])
    lines.append([chance.randint(-4, 4) for place in range(width)] + [0])
    return lines


def shown(table):
    return (table.lines, table.owners, table.heads, table.bottom, table.lack)


def says(table, line, owner, amounts):
    """Whether the line holds where each thing has the amount given."""
    numbers = zip(table.heads, line)
    return table.bottom * amounts[owner] + sum(number * amounts[head] for head, number in numbers) == line[-1]


def amounts_of(lines, first):
    """An amount for each thing: the worlds as given, every other one as its line asks."""
    amounts = dict(enumerate(first))
    for number, line in enumerate(lines):
        amounts[len(first) + number] = line[-1] - sum(one * other for one, other in zip(line, first))
    return amounts


class FirstTable(unittest.TestCase):
    def test_numbers_of_the_things(self):
        table = first_table([[1, 2, 0], [3, 4, 0], [5, 6, 0], [1, 1, 1], [7, 8, 0]])
        self.assertEqual(table.heads, [0, 1])
        self.assertEqual(table.owners, [2, 3, 4, 5, 6])
        self.assertEqual((table.lack, table.bottom), (5, 1))

    def test_ends_and_numbers(self):
        table = first_table([[3, 4, 0], [1, 1, 1], [7, 8, 0]])
        self.assertEqual([end_of(table, thing) for thing in range(5)], [0, 0, 0, 1, 0])
        self.assertEqual([number_at(table, 4, thing) for thing in range(5)], [7, 8, 0, 0, 0])


class Exchanged(unittest.TestCase):
    def test_by_hand(self):
        table = exchanged(first_table([[2, -1, 0], [1, 1, 1], [3, 5, 0]]), 0, 0)
        self.assertEqual(table.lines, [[1, -1, 0], [-1, 3, 2], [-3, 13, 0]])
        self.assertEqual((table.owners, table.heads), ([0, 3, 4], [2, 1]))
        self.assertEqual((table.bottom, table.lack), (2, 3))

    def test_back_again(self):
        chance = samples.chances()
        for turn in range(200):
            first = first_table(some_lines(chance, 4, 3))
            place, column = chance.randrange(4), chance.randrange(4)
            if first.lines[place][column] > 0:
                there = exchanged(first, place, column)
                self.assertEqual(shown(exchanged(there, place, column)), shown(first))

    def test_each_table_says_the_same(self):
        chance = samples.chances()
        for turn in range(50):
            lines = some_lines(chance, 4, 4)
            amounts = amounts_of(lines, [samples.some_fraction(chance) for place in range(4)])
            table = first_table(lines)
            for step in range(6):
                places = [(p, c) for p in range(5) for c in range(4) if table.lines[p][c] > 0]
                if places:
                    table = exchanged(table, *chance.choice(places))
                self.assertGreater(table.bottom, 0)
                for line, owner in zip(table.lines, table.owners):
                    self.assertTrue(says(table, line, owner, amounts))

    def test_the_table_before_stays_as_it_was(self):
        lines = [[2, -1, 0], [1, 1, 1], [3, 5, 0]]
        table = first_table(lines)
        exchanged(table, 0, 0)
        self.assertEqual(shown(table), shown(first_table([[2, -1, 0], [1, 1, 1], [3, 5, 0]])))


class Choosing(unittest.TestCase):
    def test_the_first_head_that_helps(self):
        table = first_table([[1, 1, 1, 0], [0, 1, 1, 1], [-1, 0, 5, 0]])
        self.assertEqual(helping(table, 4), 1)
        self.assertEqual(helping(table, 5), 2)
        table.heads = [2, 1, 0]
        self.assertEqual(helping(table, 4), 2)

    def test_no_head_helps(self):
        table = first_table([[1, 1, 0], [0, -1, 1], [-1, 0, 0]])
        self.assertIsNone(helping(table, 3))
        self.assertIsNone(helping(table, 4))

    def test_what_lacks_comes_in_no_more(self):
        table = first_table([[1, 1, 0], [1, 1, 1], [5, 5, 0]])
        table.heads = [3, 1]
        self.assertEqual(helping(table, 4), 1)
        table.lines[2][1] = 0
        self.assertIsNone(helping(table, 4))

    def test_the_least_end_goes_out(self):
        table = first_table([[1, 3], [2, 5], [0, 0], [-1, 0], [1, 2], [9, 0]])
        self.assertEqual(going_out(table, 0), 4)
        table.lines[4][1] = 3
        self.assertEqual(going_out(table, 0), 1)

    def test_of_equal_ones_the_first_owner_goes_out(self):
        table = first_table([[2, 0], [1, 0], [1, 0], [9, 0]])
        self.assertEqual(going_out(table, 0), 0)
        table.owners = [2, 1, 3, 4]
        self.assertEqual(going_out(table, 0), 1)

    def test_what_lacks_counts_as_behind_all(self):
        table = first_table([[1, 1], [1, 1], [9, 0]])
        self.assertEqual(going_out(table, 0), 0)


class Driven(unittest.TestCase):
    def test_what_lacks_goes_out(self):
        table = driven(first_table([[1, -1, 0], [1, 1, 1], [3, 5, 0]]), 3)
        self.assertNotIn(3, table.owners)
        loads = [Fraction(end_of(table, world), table.bottom) for world in range(2)]
        self.assertEqual(sum(loads), 1)
        self.assertLessEqual(loads[0] - loads[1], 0)

    def test_what_lacks_stays(self):
        table = driven(first_table([[1, 2, 0], [1, 1, 1], [3, 5, 0]]), 3)
        self.assertIn(3, table.owners)
        self.assertEqual(end_of(table, 3), table.bottom)
        self.assertIsNone(helping(table, 3))


if __name__ == "__main__":
    unittest.main()
