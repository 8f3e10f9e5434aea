"""Which rhythms are always enough, which ones fail, and cells for which they do."""

from idealtwin.checks import check_number, check_rhythm, check_row, check_size
from idealtwin.loads import pairings_within

LONGEST_STAY = 10 ** 30


def unsure(size, cells, row, rhythm):
    """Return the ascending indices of the cells in whose stay the rhythm may have too few pairings."""
    check_row(size, cells, row)
    check_rhythm(rhythm)
    spans = [(cell[0], leaving) for cell, leaving in zip(cells, row)]
    return [index for index, span in enumerate(spans) if not _has_many(rhythm, span[0], span[1])]


def rhythm_word(size, rhythm, longest):
    """Return what the rhythm does for all rows whose stays have at most so many slots: fails, sure or open."""
    check_size(size)
    check_rhythm(rhythm)
    check_number(longest, 1, LONGEST_STAY)
    if 0 in rhythm or (size >= 2 and longest >= 2 and _thin_slots(rhythm)):
        return "fails"
    return "sure" if size == 1 or _is_ample(rhythm, longest) else "open"


def breaking(size, rhythm, longest):
    """Return cells and a row without a plan that keeps the rhythm if its word is fails, otherwise None."""
    if rhythm_word(size, rhythm, longest) != "fails":
        return None
    if 0 in rhythm:
        slot = rhythm.index(0)
        return [(slot, 0, 0)], [slot]
    slot = _thin_slots(rhythm)[0]
    return [(slot, 0, 0), (slot, 1, 0), (slot + 1, 1, 1)], [slot, slot + 1, slot + 1]


def _has_many(rhythm, first, last):
    """Return whether the rhythm has at least 2 * n - 1 pairings in these n slots."""
    return pairings_within(rhythm, first, last) >= 2 * (last - first + 1) - 1


def _thin_slots(rhythm):
    """Return the ascending slots of one round that have with the next one a sum of at most 2."""
    return [slot for slot in range(len(rhythm)) if rhythm[slot] + rhythm[(slot + 1) % len(rhythm)] <= 2]


def _is_ample(rhythm, longest):
    """Return whether any slots one after another, at most so many, have enough pairings."""
    # More slots than a round and one tell nothing new. If a round has two pairings for each slot, the slots
    # without it have no more to spare than with it. If it has fewer, the round that begins with a number
    # below 2 has too few, either alone or with this number once more behind it.
    most = min(longest, len(rhythm) + 1)
    return all([_has_many(rhythm, first, first + more) for first in range(len(rhythm)) for more in range(most)])
