"""The package keeps LANGUAGE.md, as far as a test can see it; and the one who sees it is tested as well."""

import pathlib
import unittest

from tests.language import PACKAGE, faults

FOLDER = pathlib.Path(__file__).resolve().parent.parent / PACKAGE
ERRORS = '''class Bad(ValueError):
    """A refusal."""


class Worse(Bad):
    def __init__(self, at):
        self.at = at
'''
GOOD = '''"""A file that uses much of what is allowed."""

from feastfall.errors import Bad, Worse

LIMIT = 10 ** 12
WAYS = ("moves", "stays")
BOUNDS = {"a": 1, "b": -2}
NAMES = ["a", "b"]


class Box:
    """A box."""

    def __init__(self, rows, *, most=LIMIT):
        self.rows = list(rows)
        self.most = most

    def __len__(self):
        return len(self.rows)

    def put(self, row):
        self.rows.append(row)
        self.rows[0] += 1
        return self

    def parts(self):
        return {key: part for key, part in enumerate(self.rows) if part}


class Inner(Box):
    def __init__(self, rows):
        Box.__init__(self, rows, most=3)
        self.depth = 0


def by_second(pair):
    return pair[1]


def first_fault(text, many=2):
    try:
        return checked(text, many)
    except Worse as found:
        return found.at
    except Bad:
        return None


def number(text):
    try:
        return int(text.strip())
    except ValueError:
        return -1


def checked(text, many):
    first, *rest = text.split(" ")
    if first not in ("a", "b") or len(set(rest)) < len(rest):
        raise Worse(at=many)
    seen = set()
    for at, part in enumerate(rest):
        if part in seen and not part == first:
            raise Bad(f"{part!r} at {at} of {len(rest)}\\n")
        seen.add(part)
    pairs = sorted([(at, part) for at, part in zip(range(many), rest)], key=by_second, reverse=True)
    pairs.sort(key=lambda pair: pair[0])
    while seen and pairs:
        pairs.pop()
    box = Inner(pairs)
    del pairs[:]
    return [BOUNDS.get(name, 0) for name in NAMES] if box.depth is None else sorted(box.parts().items())
'''
TWO = "def other(one):\n    return one\n\n\n"
# Which rules are told to be broken, all of them, and by what.
IN_A_FUNCTION = (
    ("L6", "with one:\n    pass"),
    ("L6", "for x in one:\n    pass\nelse:\n    pass"),
    ("L6", "while one:\n    pass\nelse:\n    pass"),
    ("L6", "one == 2"),
    ("L6", "global LIMIT"),
    ("L6 L7", "yield one"),
    ("L6", "match one:\n    case 1:\n        pass"),
    ("L27 L6", "assert (one, 'why')"),
    ("L6", "one[1:2] += [3]"),
    ("L6", "del one.rows"),
    ("L6", "try:\n    pass\nfinally:\n    return 1"),
    ("L6", "try:\n    pass\nfinally:\n    other(1)"),
    ("L7", "x = 1.5"),
    ("L7", "x = 3 / 2"),
    ("L7", "x = sum(y for y in one)"),
    ("L7", "x = [*one]"),
    ("L7", "x = {**one}"),
    ("L7", "x = other(*one)"),
    ("L7", "if (x := one):\n    pass"),
    ("L27 L7", "x = f'{one:5}'"),
    ("L7", "one /= 2"),
    ("L8", "x = map(other, one)"),
    ("L8", "x = print(one)"),
    ("L8", "x = hasattr(one, 'a')"),
    ("L8", "x = 'a'.format(one)"),
    ("L10", "x = '" + "a" * 120 + "'"),
    ("L12", "_x = one"),
    ("L12", "for _ in one:\n    pass"),
    ("L13", "x = sorted({1, 2, 3})"),
    ("L13", "x = [lambda a: a, lambda a: 1]"),
    ("L14", "x = '\u00e4'"),
    ("L14", "x = 1\t"),
    ("L15 L17", "id = one"),
    ("L15", "max = one"),
    ("L15", "Bad = one"),
    ("L15", "NAMES.append(one)"),
    ("L15", "BOUNDS[one] = 2"),
    ("L15", "BOUNDS[one] += 2"),
    ("L15", "return NAMES"),
    ("L15", "return other(NAMES)"),
    ("L17", "x = 'a type'"),
    ("L17", "x = 1  # a dataclasses"),
    ("L17 L18", "x = one.f_back"),
    ("L17", "elements = one"),
    ("L18", "x = Bad"),
    ("L18", "return [Bad]"),
    ("L18", "x = one.never_assigned"),
    ("L18", "Bad.rank = 1"),
    ("L19", "raise other(one)"),
    ("L19", "raise Bad"),
    ("L19", "raise"),
    ("L19", "try:\n    pass\nexcept:\n    pass"),
    ("L19", "try:\n    pass\nexcept Exception:\n    pass"),
    ("L19", "try:\n    pass\nexcept TypeError:\n    pass"),
    ("L19", "try:\n    other(one)\nexcept ValueError:\n    pass"),
    ("L19", "try:\n    x = one % 2\nexcept (KeyError, IndexError):\n    pass"),
    ("L19", "try:\n    a, b = one\nexcept ValueError:\n    pass"),
    ("L19", "try:\n    x = one[0]\nexcept KeyError as e:\n    return str(e)"),
    ("L18 L19", "try:\n    other(one)\nexcept Bad as e:\n    return e.args"),
    ("L20", "return one is other"),
    ("L21", "x: int"),
    ("L21", "x: other(1) = 2"),
    ("L22", "x = len"),
    ("L22", "return other(sorted)"),
    ("L22", "x = sorted(one, reverse=one)"),
    ("L22", "x = int(one, base=3)"),
    ("L22", "return other(one, 2)"),
    ("L22", "return other()"),
    ("L22", "return other(two=1)"),
    ("L22", "raise Bad(3)"),
    ("L22", "raise Bad(why='x')"),
    ("L23", "x = zip(one, one)"),
    ("L23", "x = one.items()"),
    ("L23", "return range(3)"),
    ("L23", "for x in one:\n    one.append(x)"),
    ("L23", "for at, x in enumerate(one):\n    one[at] = x"),
    ("L24", "return set(one)"),
    ("L24", "for x in set(one):\n    pass"),
    ("L24", "x = set(one)\nreturn x"),
    ("L24", "x = set(one)\nfor y in x:\n    pass"),
    ("L24", "x = set(one)\nx = set(one)"),
    ("L24", "x = set(one)\nx.update(one)"),
    ("L24", "x = [set(one)]"),
    ("L25", "one.intersection(one)"),
    ("L25", "x = one.isdisjoint(one)"),
    ("L25", "x = one.split(sep=',')"),
    ("L26", "one.items = 3"),
    ("L27", "return 2 ** one"),
    ("L27", "return 'a%'"),
    ("L27", "return chr(one)"),
    ("L27", "return 'a\\r'"),
    ("L27", "return '\\x41'"),
    ("L27", "return f'{f\"{one}\"}'"),
    ("L27", "return 1if one else 2"),
    ("L28", "one.__init__(3)"),
)
WHOLE_FILES = (
    ("L16", "import os\n"),
    ("L2", "from os import path\n"),
    ("L2", "from .errors import Bad\n"),
    ("L12 L2", "from feastfall.errors import *\n"),
    ("L2", "X = 1\nfrom feastfall.errors import Bad\n"),
    ("L2", "def other():\n    from feastfall.errors import Bad\n"),
    ("L3", "X = len('a')\n"),
    ("L3", "X = [y for y in 'abc']\n"),
    ("L3", "if 1:\n    X = 2\n"),
    ("L3", "X, Y = 1, 2\n"),
    ("L3", "X = Y = 1\n"),
    ("L4", "def other(*args):\n    pass\n"),
    ("L4", "def other(**kwargs):\n    pass\n"),
    ("L4", "def other(one, /):\n    pass\n"),
    ("L4", "def other(one=[]):\n    pass\n"),
    ("L4", "def other(one=len('a')):\n    pass\n"),
    ("L4", TWO + "@other\ndef third(one):\n    pass\n"),
    ("L5", "class One:\n    most = 3\n"),
    ("L22 L5", "class One(dict):\n    pass\n"),
    ("L12 L5", "class One:\n    def __lt__(self, other):\n        return True\n"),
    ("L5", "class One:\n    pass\n\n\nclass Two:\n    pass\n\n\nclass Three(One, Two):\n    pass\n"),
    ("L10", "def other():\n" + "    pass\n" * 40),
    ("L10", "X = 1\n" + "\n" * 400),
    ("L12", "def _other():\n    pass\n"),
    ("L15", "X = 1\nX = 2\n"),
    ("L15", "X = [[1], [2]]\n"),
    ("L15", "def other():\n    class One:\n        pass\n"),
    ("L16", "from feastfall import errors\n"),
    ("L16", "from feastfall.errors import Missing\n"),
    ("L16", "from feastfall.nothing import one\n"),
    ("L18", "class One:\n    def a(self):\n        pass\n\n    def a(self):\n        pass\n"),
    ("L18", "class One:\n    def at(self):\n        pass\n"),
    ("L18", "class One(StopIteration):\n    pass\n"),
    ("L22", "class One:\n    pass\n\n\ndef other():\n    return One(3)\n"),
    ("L22", "from feastfall.errors import Worse\n\n\ndef other():\n    raise Worse()\n"),
    ("L26", "class One:\n    def encode(self):\n        pass\n"),
    ("L28", "def __len__():\n    return 1\n"),
    ("L28", "class One:\n    def __init__(self):\n        return None\n"),
    ("L28", "class One:\n    def __str__(self):\n        pass\n"),
    ("L28", "class One:\n    def __repr__(self):\n        self.at = 1\n        return 'a'\n"),
)


def package(text, name="sample.py"):
    return {"__init__.py": "", "errors.py": ERRORS, name: text}


def in_a_function(text):
    head = "from feastfall.errors import Bad\n\nLIMIT = 3\nNAMES = ['a']\nBOUNDS = {'a': 1}\n\n\n"
    return head + TWO + "def sample(one):\n    " + text.replace("\n", "\n    ") + "\n"


def rules_broken(text, name="sample.py"):
    """The numbers of all rules that are told to be broken, in one text."""
    return " ".join(sorted({fault.split(" ")[0] for fault in faults(package(text, name))}))


class ThePackage(unittest.TestCase):
    def test_it_keeps_the_rules(self):
        sources = {path.name: path.read_bytes().decode("utf-8") for path in FOLDER.iterdir() if path.suffix == ".py"}
        self.assertIn("__init__.py", sources)
        self.assertEqual(faults(sources), [])

    def test_its_folder_holds_nothing_but_files_of_python(self):
        others = [path.name for path in FOLDER.iterdir() if path.suffix != ".py" or not path.is_file()]
        self.assertEqual([name for name in others if name != "__pycache__"], [])


class TheOneWhoLooks(unittest.TestCase):
    def test_good_code_has_no_fault(self):
        self.assertEqual(faults(package(GOOD)), [])
        self.assertEqual(faults(package(in_a_function("return other(one)"))), [])

    def test_each_bad_statement_is_seen(self):
        for rules, text in IN_A_FUNCTION:
            with self.subTest(text=text):
                self.assertEqual(rules_broken(in_a_function(text)), rules)

    def test_each_bad_file_is_seen(self):
        for rules, text in WHOLE_FILES:
            with self.subTest(text=text):
                self.assertEqual(rules_broken(text), rules)

    def test_bad_names_of_files_are_seen(self):
        for rule, name in (("L1", "Sample.py"), ("L1", "a-b.py"), ("L14", "test_a.py"), ("L14", "len.py")):
            with self.subTest(name=name):
                self.assertEqual(rules_broken("X = 1\n", name), rule)

    def test_a_package_without_an_init_is_seen(self):
        self.assertEqual([fault[:3] for fault in faults({"errors.py": ERRORS})], ["L14"])

    def test_files_that_import_from_each_other_are_seen(self):
        sources = package("from feastfall.third import two\n\n\ndef one():\n    return two()\n")
        sources["third.py"] = "from feastfall.sample import one\n\n\ndef two():\n    return one()\n"
        self.assertEqual({fault[:3] for fault in faults(sources)}, {"L16"})


if __name__ == "__main__":
    unittest.main()
