"""Steady pairings of waiting cells: the best ones of both sides, and all of few cells, counted and numbered."""

from idealtwin.checks import check_number, check_waiting, is_between
from idealtwin.errors import InvalidNumber, InvalidPicks, TooLarge
from idealtwin.pairing import best_pairing

MOST_COUNTED = 12


def is_steady(waiting, value):
    """Return whether any value is a steady pairing."""
    check_waiting(waiting)
    return _is_pairing(waiting, value) and not _disturbers(waiting, value)


def disturber(waiting, picks):
    """Return the least index of a cell that disturbs a pairing; None if it is steady."""
    check_waiting(waiting)
    if not _is_pairing(waiting, picks):
        raise InvalidPicks("picks are no pairing")
    return min(_disturbers(waiting, picks), default=None)


def entry_best(waiting):
    """Return the steady pairing that is the best one for all inputs."""
    check_waiting(waiting)
    return best_pairing(waiting)


def outlet_best(waiting):
    """Return the steady pairing that is the best one for all outputs."""
    check_waiting(waiting)
    # With the sides exchanged an output likes the cell more that leaves earlier, an input that with the greater age.
    return best_pairing([(outlet, entry, -leaving, -age) for entry, outlet, age, leaving in waiting])


def steady_count(waiting):
    """Return the number of the steady pairings of at most 12 cells."""
    check_waiting(waiting)
    return len(_all_steady(waiting))


def nth_steady(waiting, index):
    """Return the steady pairing with an index, ascending as lists, of at most 12 cells."""
    check_waiting(waiting)
    check_number(index)
    found = _all_steady(waiting)
    if index >= len(found):
        raise InvalidNumber("an index is less than the number of the steady pairings")
    return found[index]


def better(waiting, picks, other_picks):
    """Return the steady pairing in which each input has the one of its two cells that it likes more."""
    return sorted([max(pair)[1] for pair in _aged_pairs(waiting, picks, other_picks)])


def worse(waiting, picks, other_picks):
    """Return the steady pairing in which each input has the one of its two cells that it likes less."""
    return sorted([min(pair)[1] for pair in _aged_pairs(waiting, picks, other_picks)])


def _is_pairing(waiting, value):
    if not isinstance(value, list):
        return False
    if not all([is_between(index, 0, len(waiting) - 1) for index in value]):
        return False
    ascends = all([one < other for one, other in zip(value, value[1:])])
    return ascends and not any([_share_port(waiting, one, other) for one in value for other in value if one < other])


def _share_port(waiting, one, other):
    return waiting[one][0] == waiting[other][0] or waiting[one][1] == waiting[other][1]


def _disturbers(waiting, picks):
    """Return the ascending indices of the cells that disturb a pairing."""
    ages = {waiting[pick][0]: waiting[pick][2] for pick in picks}
    leavings = {waiting[pick][1]: waiting[pick][3] for pick in picks}
    found = []
    for index, (entry, outlet, age, leaving) in enumerate(waiting):
        # A cell of the pairing is not older than itself, so it is never told.
        if ages.get(entry, -1) < age and leavings.get(outlet, leaving + 1) > leaving:
            found.append(index)
    return found


def _all_steady(waiting):
    """Return all steady pairings, ascending as lists."""
    if len(waiting) > MOST_COUNTED:
        raise TooLarge(MOST_COUNTED)
    pairings = [[]]
    for index in range(len(waiting)):
        free = [picks for picks in pairings if not any([_share_port(waiting, pick, index) for pick in picks])]
        pairings = pairings + [picks + [index] for picks in free]
    return sorted([picks for picks in pairings if not _disturbers(waiting, picks)])


def _aged_pairs(waiting, picks, other_picks):
    """Return for each input with cells in two steady pairings its two cells, as tuples (age, index)."""
    for pairing in (picks, other_picks):
        if not is_steady(waiting, pairing):
            raise InvalidPicks("picks are no steady pairing")
    # The same inputs have cells in all steady pairings.
    aged = {waiting[pick][0]: (waiting[pick][2], pick) for pick in other_picks}
    return [((waiting[pick][2], pick), aged[waiting[pick][0]]) for pick in picks]
