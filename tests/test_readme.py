import doctest
import pathlib
import unittest

README = pathlib.Path(__file__).parent.parent / "README.md"


class Examples(unittest.TestCase):
    def test_each_answers_as_written(self):
        told = doctest.testfile(str(README), module_relative=False)
        self.assertGreater(told.attempted, 0)
        self.assertEqual(told.failed, 0)


if __name__ == "__main__":
    unittest.main()
