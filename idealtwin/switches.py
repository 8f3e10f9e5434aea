"""Switches that run slot by slot, and can go back."""

from idealtwin.checks import check_arrivals, check_number, check_rhythm, check_size
from idealtwin.errors import Impossible, NothingToUndo, TooLarge
from idealtwin.pairing import slot_pairings
from idealtwin.queues import first_come_row

MOST_COMING = 400


class Switch:
    """A switch whose inputs like the cell more that came later."""

    RULE = "newest"

    def __init__(self, size, rhythm):
        check_size(size)
        check_rhythm(rhythm)
        if max(rhythm) == 0:
            raise Impossible("no slot has a pairing")
        self._size = size
        self._rhythm = list(rhythm)
        self._cells = []
        self._row = []
        # A cell that has not crossed has the crossing slot None.
        self._crossings = []
        # For each slot that is over, how many of its pairings moved no cell.
        self._idles = []

    @property
    def size(self):
        """The number of the inputs, and of the outputs."""
        return self._size

    @property
    def rhythm(self):
        """How many pairings the slots have."""
        return list(self._rhythm)

    @property
    def slot(self):
        """The next slot."""
        return len(self._idles)

    @property
    def waiting(self):
        """The ascending numbers of the cells at the inputs."""
        return [number for number, crossing in enumerate(self._crossings) if crossing is None]

    @property
    def held(self):
        """The ascending numbers of the cells that have crossed and have not left."""
        numbered = enumerate(zip(self._crossings, self._row))
        return [number for number, (crossing, leaving) in numbered if crossing is not None and leaving >= self.slot]

    @property
    def late(self):
        """The ascending numbers of the cells at the inputs whose leaving slot has passed."""
        return [number for number in self.waiting if self._row[number] < self.slot]

    def tick(self, arrivals):
        """Do one slot with these cells (entry, outlet); return the ascending numbers of the cells that leave."""
        check_arrivals(self._size, arrivals)
        if len(self._cells) + len(arrivals) > MOST_COMING:
            raise TooLarge(MOST_COMING)
        slot = self.slot
        self._cells.extend([(slot, entry, outlet) for entry, outlet in arrivals])
        self._row = first_come_row(self._cells)
        self._crossings.extend([None] * len(arrivals))
        self._idles.append(self._cross(slot))
        # A cell that crosses late leaves in the slot in which it crosses.
        crossed = [number for number, crossing in enumerate(self._crossings) if crossing is not None]
        return [number for number in crossed if max(self._crossings[number], self._row[number]) == slot]

    def undo(self):
        """Revert the last tick that is not reverted."""
        if not self._idles:
            raise NothingToUndo("no tick is left")
        self._idles.pop()
        slot = self.slot
        many = len([cell for cell in self._cells if cell[0] < slot])
        self._cells = self._cells[:many]
        self._row = self._row[:many]
        self._crossings = [None if crossing == slot else crossing for crossing in self._crossings[:many]]

    def leaving(self, number):
        """Return the leaving slot of a cell."""
        check_number(number, 0, len(self._cells) - 1)
        return self._row[number]

    def crossing(self, number):
        """Return the crossing slot of a cell; None if it has not crossed."""
        check_number(number, 0, len(self._cells) - 1)
        return self._crossings[number]

    def twin(self):
        """Return a switch of the same class in the same state, which can revert the same ticks."""
        return self._copied_to(Switch(self._size, self._rhythm))

    def described(self):
        """Return what there is to tell of the switch, line by line."""
        return [f"slot {self.slot}", f"waiting {len(self.waiting)}", f"late {len(self.late)}"]

    def __len__(self):
        return len(self._cells)

    def __eq__(self, other):
        return isinstance(other, Switch) and type(self) is type(other) and self._history() == other._history()

    def _history(self):
        """Return all that the state follows from."""
        return self._size, self._rhythm, self._cells, len(self._idles)

    def _cross(self, slot):
        """Let cells cross in the pairings of a slot; return how many pairings moved none."""
        many = self._rhythm[slot % len(self._rhythm)]
        pairings = slot_pairings(self._cells, self._row, self.waiting, many, self.RULE)
        for pairing in pairings:
            for number in pairing:
                self._crossings[number] = slot
        return len([pairing for pairing in pairings if not pairing])

    def _copied_to(self, other):
        other._cells = list(self._cells)
        other._row = list(self._row)
        other._crossings = list(self._crossings)
        other._idles = list(self._idles)
        return other


class OldestSwitch(Switch):
    """A switch whose inputs like the cell more that came earlier."""

    RULE = "oldest"

    def __init__(self, size, rhythm):
        super().__init__(size, rhythm)

    def twin(self):
        """Return a switch of the same class in the same state, which can revert the same ticks."""
        return self._copied_to(OldestSwitch(self._size, self._rhythm))


class CountingSwitch(Switch):
    """A switch that counts the pairings that move no cell."""

    def __init__(self, size, rhythm):
        super().__init__(size, rhythm)

    @property
    def idle(self):
        """How many pairings have moved no cell."""
        return sum(self._idles)

    def twin(self):
        """Return a switch of the same class in the same state, which can revert the same ticks."""
        return self._copied_to(CountingSwitch(self._size, self._rhythm))

    def described(self):
        """Return what there is to tell of the switch, line by line."""
        return super().described() + [f"idle {self.idle}"]


class OldestCountingSwitch(OldestSwitch, CountingSwitch):
    """A switch of both kinds."""

    def __init__(self, size, rhythm):
        super().__init__(size, rhythm)

    def twin(self):
        """Return a switch of the same class in the same state, which can revert the same ticks."""
        return self._copied_to(OldestCountingSwitch(self._size, self._rhythm))
