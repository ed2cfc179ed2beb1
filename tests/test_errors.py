import unittest

from surebook.errors import NoChance, NoFair, NoName, NoRatio, NoRow, NoText, SureError

REFUSALS = [NoRatio, NoFair, NoChance, NoText, NoRow, NoName]


def one_of_each():
    return [
        NoRatio("words"),
        NoFair([1, 0, 2]),
        NoChance([(1, 2), (0, 1)]),
        NoText(3),
        NoRow("words"),
        NoName("words"),
    ]


class Kinds(unittest.TestCase):
    def test_each_is_a_sure_error_and_a_value_error(self):
        self.assertTrue(issubclass(SureError, ValueError))
        for made in one_of_each():
            with self.subTest(made=made):
                self.assertIsInstance(made, SureError)
                self.assertIsInstance(made, ValueError)

    def test_none_stands_under_another(self):
        for place, made in enumerate(one_of_each()):
            kinds = [kind for kind in REFUSALS if isinstance(made, kind)]
            self.assertEqual(kinds, [REFUSALS[place]])

    def test_sure_error_is_none_of_the_refusals(self):
        for kind in REFUSALS:
            self.assertNotIsInstance(SureError("words"), kind)

    def test_each_is_raised_and_taken_by_any_of_its_names(self):
        for made in one_of_each():
            for kind in (type(made), SureError, ValueError):
                with self.assertRaises(kind) as taken:
                    raise made
                self.assertIs(taken.exception, made)

    def test_each_shows_as_a_text(self):
        for made in one_of_each():
            self.assertIsInstance(str(made), str)


class Values(unittest.TestCase):
    def test_multiples(self):
        for kind in (NoFair, NoChance):
            for multiples in ([], [1], [3, 0, 2], [(1, 2), (0, 1)]):
                made = kind(list(multiples))
                self.assertIs(type(made.multiples), list)
                self.assertEqual(made.multiples, multiples)

    def test_multiples_are_the_errors_own(self):
        for kind in (NoFair, NoChance):
            handed = [1, 2]
            made = kind(handed)
            handed.append(3)
            self.assertEqual(made.multiples, [1, 2])
            made.multiples.append(4)
            self.assertEqual(handed, [1, 2, 3])

    def test_two_errors_share_no_list(self):
        for kind in (NoFair, NoChance):
            handed = [1, 2]
            one = kind(handed)
            other = kind(handed)
            one.multiples.append(3)
            self.assertEqual(other.multiples, [1, 2])

    def test_at(self):
        for at in (0, 1, 13):
            made = NoText(at)
            self.assertIs(type(made.at), int)
            self.assertEqual(made.at, at)


if __name__ == "__main__":
    unittest.main()
