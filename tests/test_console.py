"""Point 31: the console."""

import random

from idealtwin import errors
from idealtwin.console import Console
from idealtwin.errors import (
    Impossible, InvalidCells, InvalidCommand, InvalidNumber, InvalidRhythm, InvalidRow, InvalidSize, InvalidSpeeds,
)
from idealtwin.rhythms import rhythm_word, unsure
from idealtwin.rows import busy_count, first_come, is_busy, last_come
from idealtwin.serving import served_count
from idealtwin.slowsides import clash_number
from idealtwin.speeds import is_enough
from idealtwin.switches import Switch
from idealtwin.texts import format_cells, format_numbers
from idealtwin.turns import is_pressed
from idealtwin.twins import late_cells, run_plan
from tests.helpers import ANY_VALUES, FOUR, THREE, TwinTest, crowd, far_cells, some_lists, some_row

RULES = ("newest", "oldest", "urgent")
ALONE = ("first", "last", "leaving", "busy", "pressed", "clash", "unsure", "count")
NO_NUMBERS = [
    "", "00", "01", "+1", "-1", "1.0", "x", "N", "0x1", "\n", "1\n", "\u0661", "\u00b2", "9" * 32, "0" * 31, "1:1:1",
]
NO_CELLS = [
    "", "0", "0:0", "0:0:0:0", ":0:0", "0::0", "0:0:", "00:0:0", "0:01:0", "0:0:-1", "+0:0:0", "x:0:0", "CELL",
    "(0,0,0)", "1" * 32 + ":0:0", "0:0:\u0660", "0:0:0\n", "0;0;0",
]


def listed(numbers):
    return format_numbers(numbers) if numbers else "none"


def yes_or_no(holds):
    return {True: "yes", False: "no"}[holds]


def answers(size, cells, row, rhythm):
    """Return what all commands that set nothing tell, from the functions; an error by its name."""
    told = {
        "leaving": lambda: listed(row), "busy": lambda: yes_or_no(is_busy(size, cells, row)),
        "pressed": lambda: yes_or_no(is_pressed(size, cells, row)),
        "clash": lambda: str(clash_number(size, cells, row)),
        "unsure": lambda: listed(unsure(size, cells, row, rhythm)), "count": lambda: str(busy_count(size, cells)),
    }
    for longest in (1, 2, 3, 40, 10 ** 30):
        told[f"word {longest}"] = lambda longest=longest: rhythm_word(size, rhythm, longest)
    for rule in RULES:
        told[f"run {rule}"] = lambda rule=rule: listed(run_plan(size, cells, row, rhythm, rule))
        told[f"late {rule}"] = lambda rule=rule: listed(
            late_cells(size, cells, row, run_plan(size, cells, row, rhythm, rule)))
        told[f"served {rule}"] = lambda rule=rule: str(
            served_count(size, cells, run_plan(size, cells, row, rhythm, rule)))
    for speeds in [(1, 1), (2, 2), (1, 3), (3, 1), (60, 60), (1, 60)]:
        told[f"enough {speeds[0]} {speeds[1]}"] = lambda speeds=speeds: yes_or_no(is_enough(size, speeds))
    return {command: answer_of(function) for command, function in told.items()}


def answer_of(function):
    try:
        return function()
    except errors.TwinError as error:
        return type(error).__name__


class ConsoleTest(TwinTest):

    def assert_state(self, console, size, cells, row, rhythm):
        """Assert that a console tells what the functions tell of its size, cells, row and rhythm."""
        for command, told in answers(size, cells, row, rhythm).items():
            self.assert_same(answer_of(lambda: console.execute(command)), told)
        # The size is told only by what can be set; the second cell here is always wrong.
        for port in range(9):
            index = 1 if port < size else 0
            self.assert_raises(InvalidCells, ("index", index), console.execute, f"cells 0:0:{port} 0:0:0")

    def told(self, *commands):
        console = Console()
        return [console.execute(command) for command in commands]


def copied(size, cells, row, rhythm):
    """Return a console that is brought to a state."""
    console = Console()
    commands = [f"size {size}", "rhythm " + format_numbers(rhythm)]
    if cells:
        commands += ["cells " + format_cells(size, cells), "row " + format_numbers(row)]
    for command in commands:
        console.execute(command)
    return console


class CommandsTest(ConsoleTest):

    def test_a_new_console(self):
        self.assert_state(Console(), 1, [], [], [2])
        self.assert_same(self.told("leaving", "busy", "pressed", "clash", "unsure", "count"),
                         ["none", "yes", "yes", "0", "none", "1"])
        self.assert_same(self.told("run newest", "late oldest", "served urgent", "enough 1 1", "word 7"),
                         ["none", "none", "1", "yes", "sure"])
        self.assert_same(self.told("first", "last", "cells 0:0:0", "leaving", "row 5", "leaving", "run newest"),
                         ["ok", "ok", "ok", "0", "ok", "5", "0"])

    def test_the_rhythm_of_a_new_console(self):
        self.assert_same(self.told("size 3", "cells 0:0:0 0:1:0 0:2:0", "run newest")[2], "0 0 1")

    def test_each_command(self):
        for cells, row, rhythm in [
            (THREE, [0, 1, 1], [2]), (THREE, [0, 2, 1], [1]), (THREE, [1, 0, 1], [0, 1]), (FOUR, [2, 0, 1], [1, 2, 3]),
            (FOUR, [9, 8, 7], [1] * 40), ([], [], [0]), (THREE, [0, 1, 1], [0, 0]),
        ]:
            self.assert_state(copied(2, cells, row, rhythm), 2, cells, row, rhythm)

    def test_drawn_states(self):
        for seed, cells in enumerate(some_lists(121, 40, 3, 5, 15)):
            source = random.Random(seed)
            row = some_row(seed, cells, 4) if seed % 2 else first_come(3, cells)
            rhythm = [source.choice([0, 1, 2, 3, 9]) for _ in range(1 + seed % 5)]
            self.assert_state(copied(3, cells, row, rhythm), 3, cells, row, rhythm)

    def test_60_cells(self):
        for cells in (crowd(), far_cells()):
            for row in (first_come(8, cells), last_come(8, cells)):
                self.assert_state(copied(8, cells, row, [1, 0, 2]), 8, cells, row, [1, 0, 2])
        console = Console()
        console.execute("size 8")
        console.execute("cells " + format_cells(8, crowd()))
        # All of 60 cells wait for one output, eight more each slot.
        self.assert_same(console.execute("count"), str(busy_count(8, crowd())))
        self.assertGreater(len(console.execute("count")), 50)

    def test_cells_get_the_row_first_come(self):
        console = copied(2, FOUR, [9, 8, 7], [1])
        self.assert_same(console.execute("cells 0:0:0 0:1:0 1:1:1"), "ok")
        self.assert_state(console, 2, THREE, [0, 1, 1], [1])
        self.assert_same([console.execute("last"), console.execute("leaving")], ["ok", "1 0 1"])
        self.assert_same([console.execute("first"), console.execute("leaving")], ["ok", "0 1 1"])
        self.assert_same([console.execute("row 3 2 1"), console.execute("leaving")], ["ok", "3 2 1"])

    def test_a_size_has_no_cells_and_the_rhythm_stays(self):
        for size in range(1, 9):
            console = copied(2, THREE, [0, 2, 1], [1, 0, 3])
            self.assert_same(console.execute(f"size {size}"), "ok")
            self.assert_state(console, size, [], [], [1, 0, 3])
        told = self.told("rhythm 1", "size 2", "word 2", "size 1", "word 2")
        self.assert_same(told, ["ok", "ok", "fails", "ok", "sure"])

    def test_slots_of_30_digits(self):
        slot = 10 ** 30 - 1
        console = copied(8, [(slot, 7, 3)], [10 ** 31 - 1], [0, 2])
        self.assert_same([console.execute("leaving"), console.execute("run urgent")], ["9" * 31, "9" * 30])
        console.execute("rhythm 2 0")
        self.assert_same([console.execute("run urgent"), console.execute("unsure")], ["1" + "0" * 30, "0"])

    def test_consoles_are_apart(self):
        one, other = Console(), Console()
        one.execute("size 2")
        one.execute("cells 0:0:0 0:1:0 1:1:1")
        one.execute("rhythm 1")
        self.assert_state(other, 1, [], [], [2])
        self.assert_state(one, 2, THREE, [0, 1, 1], [1])

    def test_commands_by_name(self):
        self.assert_same([Console().execute(command="size 2"), Console().execute(command="count")], ["ok", "1"])


class InvalidCommandTest(ConsoleTest):

    def commands(self):
        """Return many values that are no commands."""
        found = ["", " ", "  ", "Size 2", "SIZE 2", "sizes 2", "help", "size=2", "first\n", "2 size", "newest", "none"]
        found += ANY_VALUES
        for word in ALONE:
            found += [f"{word} ", f" {word}", f"{word} 1", f"{word}  ", f"{word} {word}", word.upper(), word + "\n"]
            found += [f"{word} newest", f"{word} 0:0:0"]
        for word in ("size", "word"):
            found += [word, f"{word} ", f"{word}  2", f" {word} 2", f"{word} 2 ", f"{word} 2 2", f"{word} 2 newest"]
            found += [f"{word} {text}" for text in NO_NUMBERS]
        for word in ("row", "rhythm"):
            found += [word, f"{word} ", f"{word}  0 1 1", f"{word} 0  1 1", f"{word} 0 1 1 ", f" {word} 0 1 1"]
            for text in NO_NUMBERS:
                found += [f"{word} {text} 1 1", f"{word} 0 {text} 1", f"{word} 0 1 {text}", f"{word} 0 1 1 {text}"]
        found += ["cells", "cells ", "cells  0:0:0", "cells 0:0:0 ", "cells 0:0:0  0:1:0", " cells 0:0:0"]
        for text in NO_CELLS:
            found += [f"cells {text}", f"cells 0:0:0 {text}", f"cells {text} 0:0:0", f"cells 0:0:0 0:1:0 {text}"]
        for word in ("run", "late", "served"):
            found += [word, f"{word} ", f"{word}  newest", f"{word} newest ", f"{word} newest oldest"]
            wrong = ("new", "Newest", "OLDEST", "RULE", "0", "inputs", "newest,", "newest\n")
            found += [f"{word} {rule}" for rule in wrong]
        found += ["enough", "enough ", "enough 1", "enough 1 ", "enough 1 1 ", "enough 1 1 1", "enough  1 1"]
        for text in NO_NUMBERS:
            found += [f"enough {text} 1", f"enough 1 {text}", f"enough 1 1 {text}"]
        return found

    def test_no_commands(self):
        for state in [(1, [], [], [2]), (2, THREE, [0, 2, 1], [0])]:
            console = copied(*state)
            for command in [*self.commands(), Switch(1, [1]), Console(), b"busy", ["busy"], ("busy",), {"busy": 1}]:
                self.assert_raises(InvalidCommand, None, console.execute, command)
            self.assert_state(console, *state)

    def test_long_commands(self):
        console = copied(2, THREE, [0, 1, 1], [1])
        for command in ["x" * 20000, " " * 20000, "row " + "1" * 19996, "cells " + "0:0:0 " * 3000,
                        "rhythm" + " 1" * 9000 + " x"]:
            self.assert_raises(InvalidCommand, None, console.execute, command)
        self.assert_state(console, 2, THREE, [0, 1, 1], [1])

    def test_invalid_commands_come_ahead_of_wrong_values(self):
        console = copied(2, THREE, [0, 1, 1], [1])
        for command in ["size 9 9", "size 09", "cells 0:9:0 x", "row 9 9 x", "rhythm 10 x", "word 0 0", "enough 0 x",
                        "cells 0:9:0 0:0:00", "rhythm 10 01", "row 0 0 1 01"]:
            self.assert_raises(InvalidCommand, None, console.execute, command)
        console.execute("rhythm 0")
        self.assert_raises(InvalidCommand, None, console.execute, "run new")
        self.assert_state(console, 2, THREE, [0, 1, 1], [0])


class WrongValuesTest(ConsoleTest):

    def assert_wrong(self, error, field, *commands):
        for command in commands:
            for state in [(2, THREE, [0, 2, 1], [1, 2]), (2, THREE, [1, 0, 1], [0])]:
                console = copied(*state)
                self.assert_raises(error, field, console.execute, command)
                self.assert_state(console, *state)

    def test_sizes(self):
        self.assert_wrong(InvalidSize, None, "size 0", "size 9", "size 10", "size " + "9" * 31)

    def test_cells(self):
        self.assert_wrong(InvalidCells, ("index", 0), "cells 0:2:0", "cells 0:0:2", "cells 1" + "0" * 30 + ":0:0")
        self.assert_wrong(InvalidCells, ("index", 1), "cells 0:0:0 0:0:0", "cells 0:0:0 0:0:1", "cells 0:1:0 0:0:0",
                          "cells 1:0:0 0:1:0", "cells 0:0:0 0:2:0 0:0:0", "cells 0:0:0 0:0:0 9:9:9")
        self.assert_wrong(InvalidCells, ("index", 2), "cells 0:0:0 0:1:0 0:1:1")
        many = " ".join([f"{slot}:0:0" for slot in range(61)])
        for text in (" " + many, " 0:0:0" * 3000, " 9:9:9" * 61):
            self.assert_wrong(InvalidCells, ("index", None), "cells" + text)
        console = copied(2, [], [], [1])
        self.assert_same(console.execute("cells " + many[:many.rindex(" ")]), "ok")

    def test_rows(self):
        self.assert_wrong(InvalidRow, ("index", None), "row 0", "row 0 1", "row 0 1 1 1", "row" + " 0" * 9000)
        self.assert_wrong(InvalidRow, ("index", 1), "row 0 0 1", "row 1 1 1", "row 0 0 0")
        self.assert_wrong(InvalidRow, ("index", 2), "row 0 1 0")
        console = Console()
        self.assert_raises(InvalidRow, ("index", None), console.execute, "row 0")
        self.assert_state(console, 1, [], [], [2])
        console.execute("cells 5:0:0")
        self.assert_raises(InvalidRow, ("index", 0), console.execute, "row 4")
        self.assert_state(console, 1, [(5, 0, 0)], [5], [2])

    def test_rhythms(self):
        self.assert_wrong(InvalidRhythm, ("index", 0), "rhythm 10", "rhythm 10 11", "rhythm " + "9" * 31)
        self.assert_wrong(InvalidRhythm, ("index", 2), "rhythm 1 2 10 11", "rhythm 0 0 10")
        self.assert_wrong(InvalidRhythm, ("index", 39), "rhythm" + " 1" * 39 + " 10")
        for text in (" 1" * 41, " 10" * 41, " 0" * 9000):
            self.assert_wrong(InvalidRhythm, ("index", None), "rhythm" + text)
        console = Console()
        self.assert_same(console.execute("rhythm" + " 9" * 40), "ok")
        self.assert_state(console, 1, [], [], [9] * 40)

    def test_errors_of_functions(self):
        self.assert_wrong(InvalidNumber, None, "word 0", "word 1" + "0" * 29 + "1", "word " + "9" * 31)
        self.assert_wrong(InvalidSpeeds, None, "enough 0 1", "enough 1 0", "enough 61 1", "enough 1 61", "enough 0 0",
                          "enough 1 " + "9" * 31)
        for cells, row in [(THREE, [0, 2, 1]), ([], [])]:
            console = copied(2, cells, row, [0, 0])
            for word in ("run", "late", "served"):
                for rule in RULES:
                    self.assert_raises(Impossible, None, console.execute, f"{word} {rule}")
            self.assert_state(console, 2, cells, row, [0, 0])


class OneBehindAnotherTest(ConsoleTest):

    def test_drawn_commands(self):
        for seed in range(60):
            source = random.Random(seed)
            console = Console()
            state = [1, [], [], [2]]
            for _ in range(60):
                self._do_one(source, console, state)
            self.assert_state(console, *state)

    def _do_one(self, source, console, state):
        """Run one drawn command, and do to the state what it has to do."""
        size, cells, _, _ = state
        word = source.choice(["size", "cells", "row", "first", "last", "rhythm", "tell", "tell", "wrong"])
        if word == "size":
            state[:3] = [source.randint(1, 4), [], []]
            self.assert_same(console.execute(f"size {state[0]}"), "ok")
        elif word == "cells":
            drawn = some_lists(source.randrange(999), 1, size, 4, 8)[0]
            if drawn:
                state[1:3] = [drawn, first_come(size, drawn)]
                self.assert_same(console.execute("cells " + format_cells(size, drawn)), "ok")
        elif word == "row":
            if cells:
                state[2] = some_row(source.randrange(999), cells, 5)
                self.assert_same(console.execute("row " + format_numbers(state[2])), "ok")
        elif word in ("first", "last"):
            state[2] = first_come(size, cells) if word == "first" else last_come(size, cells)
            self.assert_same(console.execute(word), "ok")
        elif word == "rhythm":
            state[3] = [source.choice([0, 1, 2, 9]) for _ in range(source.randint(1, 6))]
            self.assert_same(console.execute("rhythm " + format_numbers(state[3])), "ok")
        elif word == "tell":
            command, told = source.choice(sorted(answers(*state).items()))
            self.assert_same(answer_of(lambda: console.execute(command)), told)
        else:
            wrong = ["size 0", "cells 0:9:0", "row" + " 0" * 61, "rhythm 10", "", "word 0", "enough 0 0", "run"]
            with self.assertRaises(errors.TwinError):
                console.execute(source.choice(wrong))
