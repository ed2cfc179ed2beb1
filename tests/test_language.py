import pathlib
import re
import unittest

import language
import surebook

FOLDER = pathlib.Path(surebook.__file__).parent

BAD = {
    "L2": "import math\n\nfrom math import gcd\n",
    "L3": "print\n",
    "L4": "def ask(*many):\n    return many\n",
    "L5": "class Purse:\n    coin = 1\n",
    "L6": "def ask(one, other):\n    one, other = other, one\n    return one\n",
    "L7": "def ask():\n    return 0.5\n",
    "L8": "def ask(one):\n    return hash(one)\n",
    "L10": "def ask():\n" + "    pass\n" * 40,
    "L12": "def _ask():\n    return 1\n",
    "L14": "# caf\u00e9\n",
    "L15": "def ask(sum):\n    return sum\n",
    "L17": "# any type\n",
    "L20": "def ask(one, other):\n    return one is other\n",
    "L25": "def ask(text):\n    return text.title()\n",
}


def texts():
    """The text of each file of the package, by the name it is imported by."""
    return {f"surebook.{path.stem}": path.read_text("utf-8") for path in sorted(FOLDER.glob("*.py"))}


class Package(unittest.TestCase):
    def test_nothing_but_plain_files(self):
        for path in FOLDER.iterdir():
            if path.name != "__pycache__":
                self.assertTrue(path.is_file(), path)
                self.assertTrue(re.fullmatch(r"[a-z0-9_]+\.py", path.name), path)
        self.assertTrue((FOLDER / "__init__.py").is_file())

    def test_no_fault_is_seen(self):
        for name, text in texts().items():
            with self.subTest(name=name):
                self.assertEqual(language.faults(text), [])

    def test_no_two_files_draw_from_one_another(self):
        waiting = {name: set(language.drawn_from(text)) for name, text in texts().items()}
        while waiting:
            free = [name for name in waiting if not waiting[name] & set(waiting)]
            self.assertTrue(free, f"in a ring: {sorted(waiting)}")
            for name in free:
                del waiting[name]

    def test_no_name_is_a_method_and_a_value(self):
        methods = set().union(*[language.methods(text) for text in texts().values()])
        values = set().union(*[language.values(text) for text in texts().values()])
        self.assertIn("say", methods)
        self.assertIn("multiples", values)
        self.assertEqual(methods & values, set())


class Looking(unittest.TestCase):
    def test_bad_code_is_seen(self):
        for rule, text in BAD.items():
            with self.subTest(rule=rule):
                self.assertIn(rule, [seen for seen, line in language.faults(text)])


if __name__ == "__main__":
    unittest.main()
