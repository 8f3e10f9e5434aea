"""What several tests use: a time limit, the document's examples, lists of cells to try."""

import random
import re
import signal
import unittest
from itertools import product

from idealtwin import errors
from idealtwin.console import Console
from idealtwin.switches import Switch

SECONDS = 120

THREE = [(0, 0, 0), (0, 1, 0), (1, 1, 1)]
FOUR = [(0, 0, 0), (0, 1, 0), (1, 0, 0)]
# Waiting cells with the two steady pairings [0, 2] and [1, 3].
CROSSED = [(0, 0, 2, 2), (0, 1, 1, 1), (1, 1, 2, 2), (1, 0, 1, 1)]
ANY_VALUES = [
    None, True, False, 0, 1, -1, 7, 10 ** 31, 10 ** 200 - 1, -(10 ** 200 - 1), "", "0", "0 1 1", "1" * 200, [], [0], [1],
    [True], [False], [None], ["0"], [[]], [[[[[[]]]]]], [[0, 1, 1]], (), (0,), (0, 0), (0, 0, 0, 0), (None, None, None),
    (False, 0, 0), (0, False, 0), (0, 0, True), ("0", "0", "0"), ((), (), ()), ([0], [0], [0]), {}, {"a": 1},
    {"a": [0, {"b": (1,)}]}, [{}], ({},), [0] * 1000, errors.InvalidSize("one"), errors.InvalidRow(1),
    Switch(1, [1]), Console(), [Switch(1, [1])],
]


def _too_slow(number, frame):
    raise AssertionError(f"no answer within {SECONDS} seconds")


class TwinTest(unittest.TestCase):
    """A test that fails, instead of never ending, if the program walks all slots between far cells."""

    def setUp(self):
        signal.signal(signal.SIGALRM, _too_slow)
        signal.alarm(SECONDS)
        self.addCleanup(signal.alarm, 0)

    def assert_raises(self, error, field, function, *arguments, **named):
        """Assert that a call raises exactly this error; field is a tuple (name, value) or None."""
        before = repr((arguments, named))
        with self.assertRaises(error) as caught:
            function(*arguments, **named)
        self.assertIs(type(caught.exception), error)
        if field is not None:
            name, value = field
            found = getattr(caught.exception, name)
            self.assertEqual((type(found), found), (type(value), value))
        self.assertEqual(repr((arguments, named)), before)

    def assert_same(self, found, expected):
        """Assert equality of values and of their kinds, so True is not 1 and a tuple is no list."""
        self.assertEqual(repr(found), repr(expected))

    def run_examples(self, text, errors):
        """Run examples as the document writes them: `>>>` and then the value or `raises Name(field=value)`."""
        names = {"three": list(THREE), "four": list(FOUR)}
        lines = text.strip().splitlines()
        asked = 0
        for line, told in zip(lines, lines[1:] + [""]):
            if not line.startswith(">>> "):
                continue
            source = line[4:]
            if told.startswith(">>> ") or told == "":
                exec(source, names)
            elif told.startswith("raises "):
                asked += 1
                self._run_raising(source, names, told, errors)
            else:
                asked += 1
                self.assertEqual(repr(eval(source, names)), told, source)
        self.assertGreater(asked, 0)

    def _run_raising(self, source, names, told, errors):
        name, field, value = re.fullmatch(r"raises (\w+)(?:\((\w+)=(.*)\))?", told).groups()
        with self.assertRaises(getattr(errors, name), msg=source) as caught:
            eval(source, names)
        self.assertEqual(type(caught.exception).__name__, name)
        if field is not None:
            self.assertEqual(getattr(caught.exception, field), eval(value), source)


def small_lists(size, slots):
    """Return all lists of cells of a size in the slots 0 to slots - 1."""
    places = [(slot, entry) for slot in range(slots) for entry in range(size)]
    found = []
    for outlets in product([None, *range(size)], repeat=len(places)):
        found.append([(*place, outlet) for place, outlet in zip(places, outlets) if outlet is not None])
    return found


def all_rows(cells, longest):
    """Return all rows of some cells whose stays have at most so many slots."""
    found = []
    for row in product(*[range(cell[0], cell[0] + longest) for cell in cells]):
        if len({(leaving, cell[2]) for cell, leaving in zip(cells, row)}) == len(cells):
            found.append(list(row))
    return found


def some_lists(seed, many, size, slots, most):
    """Return lists of cells, the same ones for equal arguments."""
    source = random.Random(seed)
    places = [(slot, entry) for slot in range(slots) for entry in range(size)]
    found = []
    for _ in range(many):
        chosen = sorted(source.sample(places, source.randint(0, min(most, len(places)))))
        found.append([(*place, source.randrange(size)) for place in chosen])
    return found


def some_row(seed, cells, slack):
    """Return a row for some cells, not busy in general."""
    source = random.Random(seed)
    taken = set()
    row = []
    for slot, _, outlet in cells:
        leaving = slot + source.randrange(slack)
        while (leaving, outlet) in taken:
            leaving += 1
        taken.add((leaving, outlet))
        row.append(leaving)
    return row


def crowd():
    """Return 60 cells of size 8, as many as can come, all for output 5."""
    return [(number // 8, number - number // 8 * 8, 5) for number in range(60)]


def far_cells():
    """Return 60 cells of size 8: six at once, then a gap of 10 ** 29 slots, and so on."""
    outlets = [0, 0, 4, 0, 4, 7]
    return [(10 ** 29 * number, entry, outlets[entry]) for number in range(10) for entry in range(6)]


def far_row(offsets):
    """Return the row of far_cells in which the six at once leave so many slots behind their own one."""
    return [10 ** 29 * number + offset for number in range(10) for offset in offsets]
