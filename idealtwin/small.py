"""All plans of a few cells with short stays: counted, numbered, and the least speeds that they keep."""

from idealtwin.checks import check_number, check_row, check_speeds
from idealtwin.errors import InvalidNumber, TooLarge
from idealtwin.loads import ENTRY, OUTLET, greatest_load

MOST = 8


def has_plan(size, cells, row, speeds):
    """Return whether a row has a plan that keeps speeds."""
    return plan_count(size, cells, row, speeds) > 0


def plan_count(size, cells, row, speeds):
    """Return the number of the plans that keep speeds."""
    check_row(size, cells, row)
    check_speeds(speeds)
    return _count(_small_spans(cells, row), _groups(cells, speeds))


def nth_plan(size, cells, row, speeds, index):
    """Return the plan with an index among those that keep speeds, ascending as lists."""
    check_row(size, cells, row)
    check_speeds(speeds)
    check_number(index)
    spans = _small_spans(cells, row)
    groups = _groups(cells, speeds)
    if index >= _count(spans, groups):
        raise InvalidNumber("an index is less than the number of the plans")
    plan = []
    rest = index
    for cell in cells:
        slot = cell[0]
        many = _count_behind(plan + [slot], spans, groups)
        while rest >= many:
            rest -= many
            slot += 1
            many = _count_behind(plan + [slot], spans, groups)
        plan.append(slot)
    return plan


def least_pairs(size, cells, row):
    """Return the ascending speeds for which there is a plan and of which neither number can be less."""
    check_row(size, cells, row)
    spans = _small_spans(cells, row)
    # If each input sends one cell in a slot, all can cross as they come. More than all cells need not cross at once.
    most = max(1, len(cells))
    found = []
    least = most + 1
    for sent in range(1, most + 1):
        received = least
        while received > 1 and _count(spans, _groups(cells, (sent, received - 1))) > 0:
            received -= 1
        if received < least:
            found.append((sent, received))
        least = received
    return found


def _small_spans(cells, row):
    """Return for each cell the first and the last slot of its stay."""
    spans = [(cell[0], leaving) for cell, leaving in zip(cells, row)]
    if len(cells) > MOST or any([last - first + 1 > MOST for first, last in spans]):
        raise TooLarge(MOST)
    return spans


def _groups(cells, speeds):
    """Return the groups of cells that can cross in one slot; the bit 1 << index tells whether a cell is in it."""
    found = []
    for group in range(1 << len(cells)):
        picked = [cell for index, cell in enumerate(cells) if group & (1 << index)]
        slots = [0] * len(picked)
        sent, received = greatest_load(picked, slots, ENTRY), greatest_load(picked, slots, OUTLET)
        if sent <= speeds[0] and received <= speeds[1]:
            found.append(group)
    return found


def _count(spans, groups):
    """Return the number of plans in which each cell crosses in its span and in each slot a group crosses."""
    ways = {0: 1}
    slots = sorted({slot for first, last in spans for slot in range(first, last + 1)})
    for slot in slots:
        there = _bits([first <= slot <= last for first, last in spans])
        leaving = _bits([last == slot for _, last in spans])
        fitting = [group for group in groups if group & there == group]
        ways = _ways_behind(ways, fitting, leaving)
    return ways.get((1 << len(spans)) - 1, 0)


def _ways_behind(ways, groups, leaving):
    """Return how many ways lead behind a slot, for each group of all cells that have crossed there.

    Some group crosses in the slot, and then the cells that leave have crossed.
    """
    behind = {}
    for crossed, many in ways.items():
        for group in groups:
            if group & crossed == 0 and (group | crossed) & leaving == leaving:
                behind[group | crossed] = behind.get(group | crossed, 0) + many
    return behind


def _count_behind(plan, spans, groups):
    """Return the number of plans that begin with these crossing slots."""
    return _count([(slot, slot) for slot in plan] + spans[len(plan):], groups)


def _bits(flags):
    return sum([1 << index for index, flag in enumerate(flags) if flag])
