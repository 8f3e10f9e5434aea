"""A console with cells, a row for them and a rhythm."""

from idealtwin.checks import RULES, check_rhythm, check_row, check_size
from idealtwin.errors import InvalidCommand
from idealtwin.rhythms import rhythm_word, unsure
from idealtwin.rows import busy_count, first_come, is_busy, last_come
from idealtwin.serving import served_count
from idealtwin.slowsides import clash_number
from idealtwin.speeds import is_enough
from idealtwin.texts import format_numbers
from idealtwin.turns import is_pressed
from idealtwin.twins import late_cells, run_plan
from idealtwin.words import number_in, triple_in, words_of

# What stands behind the first word of each command; two points tell that there can be more of the same.
COMMANDS = {
    "size": "N",
    "cells": "CELL ..",
    "row": "N ..",
    "first": "",
    "last": "",
    "rhythm": "N ..",
    "leaving": "",
    "busy": "",
    "pressed": "",
    "clash": "",
    "unsure": "",
    "word": "N",
    "run": "RULE",
    "late": "RULE",
    "count": "",
    "served": "RULE",
    "enough": "N N",
}
SETTING = ("size", "cells", "row", "first", "last", "rhythm")


class Console:
    """A console that runs commands."""

    def __init__(self):
        # The size, the cells, the row and the rhythm.
        self._state = (1, [], [], [2])

    def execute(self, command):
        """Run a command and return what it tells."""
        word, values = _parsed(command)
        if word in SETTING:
            self._state = _changed(word, self._state, values)
            return "ok"
        return _told(word, self._state, values)


def _parsed(command):
    """Return the first word of a command, and what the words behind it tell."""
    words = words_of(command) if isinstance(command, str) else []
    if not words or words[0] not in COMMANDS:
        raise InvalidCommand("there is no such command")
    kinds = _kinds(COMMANDS[words[0]], len(words) - 1)
    values = [_value(kind, word) for kind, word in zip(kinds, words[1:])]
    if len(kinds) != len(words) - 1 or None in values:
        raise InvalidCommand("these words cannot stand behind this command")
    return words[0], values


def _kinds(form, many):
    """Return the kinds of the words behind the first one, so many of them where there can be more."""
    kinds = words_of(form)
    return kinds[:1] * max(1, many) if ".." in kinds else kinds


def _value(kind, word):
    """Return what a word of some kind tells; None if it tells nothing."""
    if kind == "N":
        return number_in(word)
    if kind == "CELL":
        return triple_in(word)
    return word if word in RULES else None


def _changed(word, state, values):
    """Return the state behind a command that sets something."""
    size, cells, row, rhythm = state
    if word == "size":
        check_size(values[0])
        return values[0], [], [], rhythm
    if word == "cells":
        return size, values, first_come(size, values), rhythm
    if word == "row":
        check_row(size, cells, values)
        return size, cells, values, rhythm
    if word == "first":
        return size, cells, first_come(size, cells), rhythm
    if word == "last":
        return size, cells, last_come(size, cells), rhythm
    check_rhythm(values)
    return size, cells, row, values


def _told(word, state, values):
    """Return what a command tells that sets nothing."""
    size, cells, row, rhythm = state
    if word == "leaving":
        return _listed(row)
    if word == "busy":
        return _yes_or_no(is_busy(size, cells, row))
    if word == "pressed":
        return _yes_or_no(is_pressed(size, cells, row))
    if word == "clash":
        return str(clash_number(size, cells, row))
    if word == "unsure":
        return _listed(unsure(size, cells, row, rhythm))
    if word == "word":
        return rhythm_word(size, rhythm, values[0])
    if word == "count":
        return str(busy_count(size, cells))
    if word == "enough":
        return _yes_or_no(is_enough(size, (values[0], values[1])))
    return _told_of_run(word, state, values[0])


def _told_of_run(word, state, rule):
    """Return what a command tells of the run by a rule."""
    size, cells, row, rhythm = state
    crossings = run_plan(size, cells, row, rhythm, rule)
    if word == "run":
        return _listed(crossings)
    if word == "late":
        return _listed(late_cells(size, cells, row, crossings))
    return str(served_count(size, cells, crossings))


def _listed(numbers):
    return format_numbers(numbers) if numbers else "none"


def _yes_or_no(holds):
    return "yes" if holds else "no"
