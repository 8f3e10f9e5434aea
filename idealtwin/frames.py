"""Frames: cells that come again and again, followed over any number of rounds without walking through them."""

from math import gcd

from idealtwin.checks import MOST_CELLS, check_frame, check_number, check_port, check_slot
from idealtwin.errors import InvalidFrame, InvalidNumber, TooLarge
from idealtwin.queues import first_come_row

MOST_ROUNDS = 10 ** 30


def is_frame(size, value):
    """Return whether any value is a frame."""
    try:
        check_frame(size, value)
    except InvalidFrame:
        return False
    return True


def unrolled(size, frame, rounds):
    """Return the cells of the first so many rounds."""
    check_frame(size, frame)
    check_number(rounds)
    length, cells = frame
    if rounds * len(cells) > MOST_CELLS:
        raise TooLarge(MOST_CELLS)
    # More rounds than cells can be are rounds without cells.
    turns = range(min(rounds, MOST_CELLS))
    return [(turn * length + slot, entry, outlet) for turn in turns for slot, entry, outlet in cells]


def left_over(size, frame, outlet, rounds):
    """Return how many cells of an output wait behind the last slot of so many rounds."""
    check_frame(size, frame)
    check_port(size, outlet)
    check_number(rounds, 0, MOST_ROUNDS)
    return _left_over(frame, outlet, rounds)


def leaving_of(size, frame, number, index):
    """Return the leaving slot of a cell of the frame in the round with a number."""
    check_frame(size, frame)
    check_number(number, 0, MOST_ROUNDS)
    check_number(index)
    if index >= len(frame[1]):
        raise InvalidNumber("an index is less than the number of the cells")
    return _leaving(frame, number, index)


def sender_at(size, frame, outlet, slot):
    """Return the (round, index) of the cell that leaves an output in a slot; None if none does."""
    check_frame(size, frame)
    check_port(size, outlet)
    check_slot(slot)
    own = [index for index, cell in enumerate(frame[1]) if cell[2] == outlet]
    if not own:
        return None
    turn = _last_begun(frame, own[0], slot)
    for index in own:
        if _leaving(frame, turn, index) == slot:
            return turn, index
    return None


def clash_pairs(size, frame, rounds):
    """Return how many pairs of cells of so many rounds have one input and leave in one slot."""
    check_frame(size, frame)
    check_number(rounds, 0, MOST_ROUNDS)
    return sum([_times(meeting, rounds) for meeting in _meetings(frame)])


def first_clash(size, frame):
    """Return the least (slot, entry) in which two cells of an input leave; None if there is none."""
    check_frame(size, frame)
    return min([(meeting[0], meeting[1]) for meeting in _meetings(frame)], default=None)


def clear_rounds(size, frame):
    """Return the greatest number of rounds of whose cells no two of an input leave in one slot; None if all are so."""
    check_frame(size, frame)
    return min([max(meeting[2]) for meeting in _meetings(frame)], default=None)


def _left_over(frame, outlet, rounds):
    length, cells = frame
    own = [cell for cell in cells if cell[2] == outlet]
    if rounds == 0 or not own:
        return 0
    # The first round leaves over all cells behind its end, as those that leave there follow one another. If more
    # than a round can send come in each one, the output never rests again; otherwise it makes up for what waits.
    first = max(0, max(first_come_row(own)) + 1 - length)
    return first + (rounds - 1) * max(0, len(own) - length)


def _leaving(frame, turn, index):
    length, cells = frame
    outlet = cells[index][2]
    free = turn * length + _left_over(frame, outlet, turn)
    for slot, _, other in cells[:index + 1]:
        if other == outlet:
            free = max(turn * length + slot, free) + 1
    return free - 1


def _last_begun(frame, first, slot):
    """Return the last round whose first cell of an output leaves by a slot; 0 if there is none."""
    low = 0
    high = slot // frame[0]
    while low < high:
        middle = (low + high + 1) // 2
        if _leaving(frame, middle, first) <= slot:
            low = middle
        else:
            high = middle - 1
    return low


def _meetings(frame):
    """Return how two cells of one input leave in one slot, as tuples (slot, entry, rounds, strides).

    It happens for the first time in this slot, for the two cells in these two rounds; and again in as many
    rounds later as the strides say, and so on; never again if the strides are None.
    """
    cells = frame[1]
    tracks = [_tracks(frame, index) for index in range(len(cells))]
    found = []
    for index, cell in enumerate(cells):
        for at in range(index):
            if cells[at][1] == cell[1] and cells[at][2] != cell[2]:
                common = [_first_common(one, other) for one in tracks[at] for other in tracks[index]]
                found.extend([(slot, cell[1], turns, strides) for slot, turns, strides in common if slot is not None])
    return found


def _tracks(frame, index):
    """Return the leaving slots of a cell as two tracks (round, slot, step): that of round 0, and the later ones.

    What is left over by round 0 delays all later rounds alike, so from round 1 on the steps are equal: as long
    as a round, or as many slots as the output has cells if these are more.
    """
    length, cells = frame
    own = [cell for cell in cells if cell[2] == cells[index][2]]
    step = max(length, len(own))
    return [(turn, _leaving(frame, turn, index), step) for turn in (0, 1)]


def _first_common(one, other):
    """Return the first slot that two tracks have in common, the two rounds there and the strides; or three None."""
    nothing = (None, None, None)
    steps = _steps_to_meet(one, other)
    if steps is None:
        return nothing
    single = one[0] == 0 or other[0] == 0
    if (one[0] == 0 and steps[0] > 0) or (other[0] == 0 and steps[1] > 0):
        return nothing
    shared = gcd(one[2], other[2])
    strides = None if single else (other[2] // shared, one[2] // shared)
    return one[1] + steps[0] * one[2], (one[0] + steps[0], other[0] + steps[1]), strides


def _steps_to_meet(one, other):
    """Return how many steps each of two tracks takes to their first common slot; None if there is none."""
    _, slot, step = one
    _, other_slot, other_step = other
    # So many steps bring the first track to the begin of the other one, or behind it.
    least = max(0, -((slot - other_slot) // step))
    for steps in range(least, least + other_step):
        other_steps, rest = divmod(slot + steps * step - other_slot, other_step)
        if rest == 0:
            return steps, other_steps
    return None


def _times(meeting, rounds):
    """Return how often two cells meet so in the first so many rounds."""
    turns, strides = meeting[2], meeting[3]
    if max(turns) >= rounds:
        return 0
    if strides is None:
        return 1
    return 1 + min([(rounds - 1 - turn) // stride for turn, stride in zip(turns, strides)])
