"""Points 2 and 3: the errors of parameters and their order, arguments that stay, lists that are new."""

import copy
import importlib

from idealtwin import errors
from idealtwin.console import Console
from idealtwin.switches import Switch
from tests.helpers import CROSSED, THREE, TwinTest, crowd, far_cells
from tests.interface import FUNCTIONS

GIVEN = {
    "size": 2, "cells": THREE, "row": [0, 1, 1], "crossings": [0, 0, 1], "outlet": 0, "slot": 1, "last": 1, "index": 1,
    "value": [0, 1, 1], "speeds": (1, 2), "rhythm": [1, 2], "side": "inputs", "number": 2, "longest": 2,
    "other_crossings": [0, 1, 1], "rule": "oldest", "waiting": CROSSED, "picks": [0, 2], "other_picks": [1, 3],
    "frame": (2, THREE[:2]), "rounds": 2, "numbers": [0, 1, 10 ** 31 - 1],
}
# What some functions are given instead.
GIVEN_TO = {
    "nth_plan": {"speeds": (2, 2)}, "parse_cells": {"text": "0:0:0 0:1:0 1:1:1"}, "parse_row": {"text": "0 1 1"},
}
# Parameters that take any value, or of which only right values are passed.
FREE = ("value", "numbers")
# The parameters whose errors have a field, here always the index.
INDEXED = ("cells", "row", "crossings", "other_crossings", "rhythm", "waiting", "frame")
OBJECTS = [errors.InvalidSize("one"), errors.InvalidRow(1), Switch(1, [1]), Console()]
KINDS = [None, True, False, "", "1", [], [1], (), (1,), {}, {"a": 1}, *OBJECTS]
NO_LISTS = [None, True, False, 0, 1, -1, "", "011", (), (0, 1, 1), {}, {"a": 0}, *OBJECTS]
MANY = [(slot, 0, 0) for slot in range(61)]


def indexed(index, *values):
    return [(value, index) for value in values]


# For each parameter its error, and wrong values; with the index that the error names, where it has one.
WRONG = {
    "size": (errors.InvalidSize, [*KINDS, 0, 9, -1, -(10 ** 40 - 1), 10 ** 200 - 1]),
    "outlet": (errors.InvalidPort, [*KINDS, -1, 2, 7, 10 ** 200 - 1]),
    "slot": (errors.InvalidSlot, [*KINDS, -1, 10 ** 31, 10 ** 200 - 1]),
    "last": (errors.InvalidSlot, [*KINDS, -1, 10 ** 31, 10 ** 200 - 1]),
    "index": (errors.InvalidNumber, [*KINDS, -1, -(10 ** 40 - 1), 2, 3, 10 ** 200 - 1]),
    "cells": (errors.InvalidCells, [
        *indexed(None, *NO_LISTS, tuple(THREE), MANY, [None] * 61, [(0, 0, 0)] * 1000),
        *indexed(0, [None], [0], [True], ["0:0:0"], [[0, 0, 0]], [()], [(0, 0)], [(0, 0, 0, 0)], [{}]),
        *indexed(0, [(False, 0, 0)], [(0, False, 0)], [(0, 0, True)], [(0, 0, None)], [("0", 0, 0)], [((0,), 0, 0)]),
        *indexed(0, [(-1, 0, 0)], [(0, -1, 0)], [(0, 0, -1)], [(0, 2, 0)], [(0, 0, 2)], [(10 ** 30, 0, 0)]),
        *indexed(0, [(0, 0, 2), (0, 0, 0), (0, 0, 0)], [(0, 2, 0), None], [None] * 60),
        *indexed(1, [(0, 0, 0), (0, 0, 0)], [(0, 0, 0), (0, 0, 1)], [(0, 0, 1), (0, 0, 0)], [(0, 1, 0), (0, 0, 1)]),
        *indexed(1, [(1, 0, 0), (0, 1, 0)], [(0, 0, 0), [1, 0, 0]], [(0, 0, 0), (True, 0, 0)], [(0, 0, 0), (1, 2, 0)]),
        *indexed(2, [*THREE[:2], (0, 1, 1)], [*THREE[:2], None, None], [(0, 0, 0), (2, 0, 0), (1, 1, 0), (1, 1, 0)]),
        *indexed(59, [*MANY[:59], (58, 0, 0)], [*MANY[:59], (59, 0, 2)], [*MANY[:59], (10 ** 30, 0, 0)]),
    ]),
    "row": (errors.InvalidRow, [
        *indexed(None, *NO_LISTS, [], [0], [0, 1], [0, 1, 1, 2], [None] * 4),
        *indexed(0, [None, 1, 1], [False, 1, 1], ["0", 1, 1], [(0,), 1, 1], [[0], 1, 1], [{}, 1, 1], [None] * 3),
        *indexed(0, [-1, 1, 1], [10 ** 31, 1, 1], [10 ** 200 - 1, 1, 1], [-1, -1, 0], [errors.InvalidRow(1), 1, 1]),
        *indexed(1, [0, True, 1], [0, -1, 1], [0, 10 ** 31, 1], [0, None, None]),
        *indexed(1, [0, 0, 1], [1, 1, 1], [10 ** 31 - 1, 10 ** 31 - 1, 0], [0, 0, 0]),
        *indexed(2, [0, 1, 0], [0, 1, True], [0, 1, 10 ** 31], [0, 1, "1"], [0, 1, None]),
    ]),
    "crossings": (errors.InvalidCrossings, [
        *indexed(None, *NO_LISTS, [], [0], [0, 1], [0, 1, 1, 2], [None] * 4),
        *indexed(0, [None, 1, 1], [False, 1, 1], ["0", 1, 1], [(0,), 1, 1], [-1, 1, 1], [10 ** 31, 1, 1], [None] * 3),
        *indexed(1, [0, True, 1], [0, -1, 1], [0, 10 ** 31, 1], [0, None, None], [0, {}, 0]),
        *indexed(2, [0, 1, 0], [0, 1, True], [0, 1, 10 ** 31], [0, 1, "1"], [0, 0, 0], [5, 5, 0]),
    ]),
    "speeds": (errors.InvalidSpeeds, [
        *KINDS, 0, 1, 12, "12", [1, 2], (1, 2, 3), (1, 1, 1), ((1, 2),), {1: 1, 2: 2}, (0, 1), (1, 0), (61, 1), (1, 61),
        (-1, 1), (1, -1), (True, 1), (1, True), ("1", 1), (1, "2"), (None, 1), (1, None), ([1], 1), (1, (2,)), (1, {}),
        (10 ** 200 - 1, 1), (1, 10 ** 200 - 1), (None, None),
    ]),
    "rhythm": (errors.InvalidRhythm, [
        *indexed(None, *NO_LISTS, [], [1] * 41, [None] * 41, [1] * 1000),
        *indexed(0, [-1], [10], [True], [False], [None], ["1"], [[1]], [(1,)], [{}], [10 ** 200 - 1], [10] * 40),
        *indexed(1, [0, 10], [9, -1], [1, True], [0, None, None], [1, [1]], [2, "2", 2], [1, errors.InvalidRow(1)]),
        *indexed(39, [9] * 39 + [10], [0] * 39 + [-1], [1] * 39 + [False]),
    ]),
    "side": (errors.InvalidSide, [
        *KINDS, 0, 1, "input", "output", "Inputs", "INPUTS", " inputs", "outputs ", "inputs outputs", ["inputs"],
        ("outputs",), {"inputs": "outputs"}, ("inputs", "outputs"), 10 ** 200 - 1,
    ]),
    "number": (errors.InvalidNumber, [*KINDS, 0, -1, -(10 ** 40 - 1), -(10 ** 200 - 1)]),
    "longest": (errors.InvalidNumber, [*KINDS, 0, -1, -(10 ** 40 - 1), 10 ** 30 + 1, 10 ** 200 - 1]),
    "rule": (errors.InvalidRule, [
        *KINDS, 0, 1, "new", "Newest", "OLDEST", " oldest", "urgent ", "newest oldest", "newestoldest", ["newest"],
        ("urgent",), {"newest": "oldest"}, ("newest", "oldest", "urgent"), 10 ** 200 - 1,
    ]),
    "waiting": (errors.InvalidWaiting, [
        *indexed(None, *NO_LISTS, tuple(CROSSED), [(0, 0, age, age) for age in range(25)], [None] * 25, [0] * 1000),
        *indexed(0, [None], [0], [True], ["0:0"], [[0, 0, 0, 0]], [()], [(0, 0, 0)], [(0, 0, 0, 0, 0)], [{}]),
        *indexed(0, [(True, 0, 0, 0)], [(0, False, 0, 0)], [(0, 0, True, 0)], [(0, 0, 0, False)], [(None,) * 4]),
        *indexed(0, [("0", 0, 0, 0)], [(0, (0,), 0, 0)], [(0, 0, [0], 0)], [(0, 0, 0, "0")], [None] * 24),
        *indexed(0, [(-1, 0, 0, 0)], [(0, -1, 0, 0)], [(0, 0, -1, 0)], [(0, 0, 0, -1)], [(8, 0, 0, 0)], [(0, 8, 0, 0)]),
        *indexed(0, [(0, 0, 10 ** 31, 0)], [(0, 0, 0, 10 ** 31)], [(9, 0, 0, 0), (9, 0, 0, 0)]),
        *indexed(1, [(0, 0, 3, 1), (0, 1, 3, 2)], [(0, 0, 1, 3), (1, 0, 2, 3)], [(0, 0, 1, 1), (0, 0, 1, 1)]),
        *indexed(1, [(0, 0, 0, 0), None], [(0, 0, 0, 0), [0, 0, 1, 1]], [(0, 0, 0, 0), (0, 0, 0, 0), None]),
        *indexed(2, [(0, 0, 3, 1), (1, 0, 3, 2), (0, 1, 3, 2)], [(0, 0, 1, 3), (0, 1, 2, 3), (1, 0, 2, 3)]),
        *indexed(23, [*[(at, 0, 5, at) for at in range(8)], *[(0, 1, at, at) for at in range(9, 24)], (0, 7, 9, 0)]),
    ]),
    "picks": (errors.InvalidPicks, [
        *NO_LISTS, [-1], [4], [0, 4], [2, 0], [0, 0], [0, 0, 2], [0, 1], [0, 3], [1, 2], [2, 3], [0, 1, 2, 3], [True],
        [False], [None], ["0"], [[0]], [(0,)], [0, True], [0, None], [False, 2], [10 ** 200 - 1], [0] * 1000, [{}],
        [errors.InvalidRow(1)],
    ]),
    "frame": (errors.InvalidFrame, [
        *indexed(None, *KINDS, 0, [2, THREE], (2,), (2, THREE, THREE), ((2, THREE),), {1: 2, 2: 3}, (True,)),
        *indexed(0, (0, []), (41, []), (-1, THREE), (True, []), ("2", []), (None, []), ([2], []), ((2,), []), ({}, [])),
        *indexed(0, (0, None), (41, [(0, 2, 0)]), (10 ** 200 - 1, THREE), (None, None)),
        *indexed(1, (2, None), (2, ()), (2, tuple(THREE)), (2, {}), (2, 0), (2, "0:0:0"), (2, True), (2, [None])),
        *indexed(1, (1, THREE), (2, [(2, 0, 0)]), (2, [(0, 0, 0), (2, 0, 0)]), (40, [(40, 0, 0)]), (2, [(0, 2, 0)])),
        *indexed(1, (2, [(0, 0, 2)]), (2, [(0, 1, 0), (0, 0, 0)]), (2, [(0, 0, 0), (0, 0, 1)]), (2, [(0, 0, 0)] * 61)),
        *indexed(1, (40, MANY), (1, [(10 ** 29, 0, 0)]), (2, [(0, True, 0)]), (2, [[0, 0, 0]]), (2, [(0, 0)])),
    ]),
    "rounds": (errors.InvalidNumber, [*KINDS, -1, -(10 ** 40 - 1), -(10 ** 200 - 1)]),
}
WRONG["other_crossings"] = WRONG["crossings"]
WRONG["other_picks"] = WRONG["picks"]
# Where a function takes other values for a parameter than others do.
WRONG_FOR = {
    ("leaving_of", "number"): (errors.InvalidNumber, [*KINDS, -1, -(10 ** 40 - 1), 10 ** 30 + 1, 10 ** 200 - 1]),
    ("left_over", "rounds"): (errors.InvalidNumber, [*KINDS, -1, -(10 ** 40 - 1), 10 ** 30 + 1, 10 ** 200 - 1]),
    ("clash_pairs", "rounds"): (errors.InvalidNumber, [*KINDS, -1, -(10 ** 40 - 1), 10 ** 30 + 1, 10 ** 200 - 1]),
}
WRONG_FOR[("parse_cells", "text")] = (errors.InvalidText, [
    *indexed(None, None, True, 0, 10 ** 200 - 1, [], ["0:0:0"], (), ("0:0:0",), {}, {"0:0:0": 1}, errors.InvalidRow(1)),
    *indexed(0, " ", "0", "0:0", "0:0:0:0", "0:0:2", "0:2:0", "00:0:0", "+1:0:0", "-1:0:0", " 0:0:0", "a:0:0"),
    *indexed(1, "0:0:0 ", "0:0:0  0:1:0", "0:0:0 0:0:0", "0:0:0 0:0:1", "1:0:0 0:1:0", "0:0:0 01:0:0", "0:0:0 1"),
])
WRONG_FOR[("parse_row", "text")] = (errors.InvalidText, [
    *indexed(None, None, True, 0, 10 ** 200 - 1, [], ["0", "1", "1"], (), (0, 1, 1), {}, {"0 1 1": 1}),
    *indexed(0, "", " ", " 0 1 1", "00 1 1", "+0 1 1", "-0 1 1", "x", "0:0:0", "1" * 32, "0\n1 1"),
    *indexed(1, "0", "0 ", "0  1 1", "0 0 1", "0 01 1", "0 +1 1", "0 1.0 1"),
    *indexed(2, "0 1", "0 1 ", "0 1 0", "0 1 01", "0 1 x", "0 1 " + "1" * 32), *indexed(3, "0 1 1 ", "0 1 1 1"),
])
for name in ("better", "worse"):
    more = [[], [0], [1], [2], [3], [0, 2, 3]]
    for pairing in ("picks", "other_picks"):
        WRONG_FOR[(name, pairing)] = (errors.InvalidPicks, [*WRONG["picks"][1], *more])
# With these values a function raises an error that a point lists; it comes behind all errors of parameters.
LISTED = {
    "turned_cells": (errors.Impossible, {"row": [0, 2, 1]}),
    "turned_row": (errors.Impossible, {"row": [0, 2, 1]}),
    "turned_plan": (errors.Impossible, {"crossings": [0, 0, 9]}),
    "busy_index": (errors.NotBusy, {"row": [0, 2, 1]}),
    "plan_by_leaving": (errors.NotBusy, {"row": [0, 2, 1]}),
    "plan_by_coming": (errors.NotPressed, {"row": [0, 2, 1]}),
    "run_plan": (errors.Impossible, {"rhythm": [0, 0]}),
    "served_index": (errors.NotBusy, {"row": [0, 2, 1]}),
    "unrolled": (errors.TooLarge, {"rounds": 31}),
    "has_plan": (errors.TooLarge, {"row": [0, 8, 1]}),
    "plan_count": (errors.TooLarge, {"row": [0, 8, 1]}),
    "nth_plan": (errors.TooLarge, {"row": [0, 8, 1], "index": 10 ** 40 - 1}),
    "least_pairs": (errors.TooLarge, {"row": [0, 8, 1]}),
    "steady_count": (errors.TooLarge, {"waiting": [(0, 0, age, age) for age in range(13)]}),
    "nth_steady": (errors.TooLarge, {"waiting": [(0, 0, age, age) for age in range(13)]}),
}


def wrong_values(function, parameter):
    """Return the tuples (value, error, field) for a parameter of a function."""
    own = (function.__name__, parameter)
    error, values = WRONG_FOR[own] if own in WRONG_FOR else WRONG[parameter]
    if parameter in INDEXED or parameter == "text":
        return [(value, error, ("word" if parameter == "text" else "index", index)) for value, index in values]
    return [(value, error, None) for value in values]


def given_to(function, **others):
    """Return the values that a function is given."""
    return {**GIVEN, **GIVEN_TO.get(function.__name__, {}), **others}


def calls():
    """Return the tuples (function, parameters) of the interface."""
    found = []
    for module, functions in FUNCTIONS.items():
        for name, parameters in functions.items():
            found.append((getattr(importlib.import_module(module), name), parameters))
    return found


class ErrorsOfParametersTest(TwinTest):

    def test_the_given_values_raise_none(self):
        for function, parameters in calls():
            with self.subTest(function.__name__):
                function(*[given_to(function)[parameter] for parameter in parameters])

    def test_each_wrong_value(self):
        for function, parameters in calls():
            for parameter in parameters:
                if parameter in FREE:
                    continue
                for value, error, field in wrong_values(function, parameter):
                    with self.subTest(function.__name__, parameter=parameter, value=value):
                        named = {name: given_to(function)[name] for name in parameters}
                        named[parameter] = value
                        self.assert_raises(error, field, function, **named)

    def test_of_two_wrong_ones_the_first_is_told(self):
        for function, parameters in calls():
            parameters = [parameter for parameter in parameters if parameter not in FREE]
            for at, parameter in enumerate(parameters):
                for behind in parameters[at + 1:]:
                    with self.subTest(function.__name__, parameter=parameter, behind=behind):
                        self._assert_first_told(function, parameter, behind)

    def _assert_first_told(self, function, parameter, behind):
        named = given_to(function)
        names = [name for function_, names in calls() if function_ is function for name in names]
        seconds = wrong_values(function, behind)
        for number, (value, error, field) in enumerate(wrong_values(function, parameter)):
            for other, _, _ in (seconds[0], seconds[-1], seconds[number - number // len(seconds) * len(seconds)]):
                named[parameter] = value
                named[behind] = other
                self.assert_raises(error, field, function, **{name: named[name] for name in names})

    def test_all_wrong(self):
        for function, parameters in calls():
            for first in range(len(parameters)):
                if parameters[first] in FREE:
                    continue
                named = {name: given_to(function)[name] for name in parameters[:first]}
                value, error, field = wrong_values(function, parameters[first])[0]
                named.update({name: None for name in parameters[first:]})
                named[parameters[first]] = value
                with self.subTest(function.__name__, first=parameters[first]):
                    self.assert_raises(error, field, function, **named)

    def test_what_a_point_lists_comes_behind(self):
        for function, parameters in calls():
            if function.__name__ not in LISTED:
                continue
            error, listed = LISTED[function.__name__]
            named = {name: given_to(function, **listed)[name] for name in parameters}
            self.assert_raises(error, None, function, **named)
            for parameter in parameters:
                for value, told, field in wrong_values(function, parameter):
                    wrong = dict(named)
                    wrong[parameter] = value
                    # That an index is too great comes last of all.
                    if parameter == "index" and type(value) is int and value > 0:
                        told, field = error, None
                    with self.subTest(function.__name__, parameter=parameter, value=value):
                        self.assert_raises(told, field, function, **wrong)


class RangesTest(TwinTest):

    def call(self, function, **named):
        return function(**named)

    def test_sizes_from_1_to_8(self):
        for function, parameters in calls():
            named = given_to(
                function, cells=[], row=[], crossings=[], other_crossings=[], index=0, frame=(1, [(0, 0, 0)]), text="",
            )
            for size in range(1, 9):
                with self.subTest(function.__name__, size=size):
                    self.call(function, **{name: named[name] if name != "size" else size for name in parameters})

    def test_ports_and_slots_at_their_ends(self):
        for function, parameters in calls():
            for size in range(1, 9):
                for port in range(size):
                    for slot in (0, 10 ** 30, 10 ** 31 - 1):
                        named = given_to(
                            function, size=size, cells=[(0, port, port)], row=[0], crossings=[0], index=0, outlet=port,
                            slot=slot, last=0, other_crossings=[slot], frame=(1, [(0, port, port)]),
                            text="0" if "cells" in parameters else f"0:{port}:{port}",
                        )
                        self.call(function, **{name: named[name] for name in parameters})

    def test_ports_of_the_size(self):
        for function, parameters in calls():
            if "outlet" in parameters:
                for size in range(1, 9):
                    named = dict(GIVEN, size=size, cells=[], outlet=size, frame=(1, []))
                    wrong = {name: named[name] for name in parameters}
                    self.assert_raises(errors.InvalidPort, None, function, **wrong)


# What some functions raise for the arguments of the next tests.
RAISED = ("NotPressed", "InvalidNumber", "Impossible", "TooLarge")


class ArgumentsStayTest(TwinTest):

    def test_arguments_are_unchanged_and_results_are_new(self):
        for cells in (THREE, crowd(), far_cells()):
            size = 8
            row = importlib.import_module("idealtwin.rows").first_come(size, list(cells))
            named = dict(
                GIVEN, size=size, cells=cells, row=row, crossings=[cell[0] for cell in cells], last=10 ** 30 - 1,
                value=list(row), outlet=5, other_crossings=list(row),
                frame=(40, [cell for cell in cells[:30] if cell[0] < 40]),
            )
            for function, parameters in calls():
                given = dict(named, text=" ".join(map(str, row)) if "cells" in parameters else "0:0:0")
                with self.subTest(function.__name__, many=len(cells)):
                    self._assert_stay(function, {name: copy.deepcopy(given[name]) for name in parameters})

    def test_more_arguments_of_some_functions(self):
        for function, parameters in calls():
            for named in (
                dict(GIVEN, speeds=(1, 1), rhythm=[1], slot=2, crossings=[2, 2, 2], last=5, value=[[0], [1, 2]]),
                dict(GIVEN, size=8, speeds=(6, 1), rhythm=[0, 1], side="outputs", number=1, crossings=[1, 1, 1]),
                dict(GIVEN, row=[1, 0, 1], rhythm=[9], side="outputs", number=9, value=[0, 0, 1], slot=0),
                dict(GIVEN, rule="urgent", waiting=[], picks=[], other_picks=[], frame=(3, []), rounds=9),
            ):
                named = dict(GIVEN_TO.get(function.__name__, {}), **named)
                with self.subTest(function.__name__, named=named):
                    self._assert_stay(function, {name: copy.deepcopy(named[name]) for name in parameters})

    def _assert_stay(self, function, named):
        """Assert that a call leaves its arguments as they are, also one that raises an error."""
        before = copy.deepcopy(named)
        try:
            first = function(**named)
        except errors.TwinError as error:
            first = type(error).__name__
            self.assertIn(first, RAISED)
        self.assertEqual(repr(named), repr(before))
        if first in RAISED:
            return
        expected = copy.deepcopy(first)
        self._spoil(first)
        self.assertEqual(repr(named), repr(before))
        self.assert_same(function(**named), expected)
        self.assert_same(function(**before), expected)

    def _spoil(self, value):
        """Change each list in a value, inner ones first."""
        if isinstance(value, (list, tuple)):
            for item in value:
                self._spoil(item)
        if isinstance(value, list):
            value.append("changed")
            value[0] = "changed"

    def test_arguments_that_change_later_are_not_kept(self):
        rows = importlib.import_module("idealtwin.rows")
        turns = importlib.import_module("idealtwin.turns")
        cells, row = [(0, 0, 0), (0, 1, 0)], [0, 1]
        found = [rows.first_come(2, cells), turns.turned_row(2, cells, row, 1)]
        kept = copy.deepcopy(found)
        cells.append((1, 1, 1))
        row[0] = 7
        self.assert_same(found, kept)
        self.assert_same(rows.first_come(2, cells), [0, 1, 1])
        self.assert_raises(errors.InvalidRow, ("index", None), rows.is_busy, 2, cells, row)
