"""A switch as the document tells it: all its slots walked again from slot 0 on for each question."""

from tests.steady_reference import by_rounds


class Walk:
    """What is so behind some slots, of which the cells (entry, outlet) are told that come in them."""

    def __init__(self, rhythm, rule, arrivals):
        self.cells, self.row, self.crossings = [], [], []
        self.left = []
        self.idle = 0
        self.slot = 0
        for ports in arrivals:
            self._come(ports)
            self._cross(rhythm[self.slot % len(rhythm)], rule)
            self.left.append(self._leave())
            self.slot += 1
        gone = {number for numbers in self.left for number in numbers}
        numbers = range(len(self.cells))
        self.waiting = [number for number in numbers if self.crossings[number] is None]
        self.held = [number for number in numbers if self.crossings[number] is not None and number not in gone]
        self.late = [number for number in self.waiting if self.row[number] < self.slot]

    def _come(self, ports):
        for entry, outlet in ports:
            leaving = self.slot
            while (leaving, outlet) in [(slot, cell[2]) for slot, cell in zip(self.row, self.cells)]:
                leaving += 1
            self.cells.append((self.slot, entry, outlet))
            self.row.append(leaving)
            self.crossings.append(None)

    def _cross(self, many, rule):
        sign = 1 if rule == "newest" else -1
        for _ in range(many):
            ready = [number for number, crossing in enumerate(self.crossings) if crossing is None]
            if not ready:
                self.idle += 1
            cells = [self.cells[number] for number in ready]
            waiting = [(cell[1], cell[2], sign * cell[0], self.row[number]) for number, cell in zip(ready, cells)]
            for pick in by_rounds(waiting):
                self.crossings[ready[pick]] = self.slot

    def _leave(self):
        gone = {number for numbers in self.left for number in numbers}
        crossed = [number for number, crossing in enumerate(self.crossings) if crossing is not None]
        return [number for number in crossed if self.row[number] <= self.slot and number not in gone]
