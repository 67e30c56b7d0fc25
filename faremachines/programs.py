"""Linear programs, solved in integers by the simplex method: the multipliers of rows with the least sum of bounds.

Rows are pairs of a tuple of numbers and a bound. The last ones have the number 1 for one unknown each, in order.
"""

from faremachines.machines import NONE
from faremachines.ratios import ratio_of


def pivoted(line, by, at, scale):
    """Return a line less as many times another one that it has 0 at an index; both are told by a scale."""
    one = by[at]
    other = line[at]
    # The quotients are whole: all numbers are subdeterminants of the rows.
    return [(number * one - other * told) // scale for number, told in zip(line, by)]


def entering(costs, careful):
    """Return the index of a number that saves something when it grows, or NONE; if careful, the first one."""
    saving = [at for at, cost in enumerate(costs) if cost < 0]
    if not saving:
        return NONE
    return saving[0] if careful else min(saving, key=lambda at: costs[at])


class Program:
    """Multipliers of rows, from 0 on, whose sum has at least some numbers; those of the first rows may be 1 at most."""

    def __init__(self, rows, least, limited):
        """Begin with multipliers of the last rows alone; the first ones, so many as are limited, are 1 at most."""
        self._rows = len(rows)
        self._limited = limited
        self._scale = 1
        self._flipped = {}
        self._lines = []
        # The index of the number that each line tells; behind the multipliers are those by which sums are greater.
        self._basis = []
        self._costs = [bound for _, bound in rows] + [0] * (len(least) + 1)
        for at, number in enumerate(least):
            line = [numbers[at] for numbers, _ in rows] + [-1 if at == k else 0 for k in range(len(least))] + [number]
            own = len(rows) - len(least) + at
            if number > 0:
                self._costs = [cost - rows[own][1] * told for cost, told in zip(self._costs, line)]
            self._basis.append(own if number > 0 else len(rows) + at)
            self._lines.append(line if number > 0 else [-told for told in line])
        # What grows without end, if the sum of bounds has no least one.
        self._endless = NONE
        self._solve()

    def is_endless(self):
        """Tell whether the sum of bounds can be less than any integer."""
        return self._endless != NONE

    def value(self):
        """Return the least sum of bounds, a ratio."""
        return ratio_of(-self._costs[-1], self._scale)

    def multipliers(self):
        """Return the tuple of the multipliers with the least sum of bounds."""
        found = {at: self._scale if self._flipped[at] else 0 for at in self._flipped}
        for at, line in zip(self._basis, self._lines):
            found[at] = self._scale - line[-1] if self._flipped.get(at, False) else line[-1]
        return tuple([ratio_of(found.get(at, 0), self._scale) for at in range(self._rows)])

    def tariff(self):
        """Return the tuple of the ratios that keep all rows, with the greatest sum of the numbers."""
        return tuple([ratio_of(cost, self._scale) for cost in self._costs[self._rows:-1]])

    def endless_multipliers(self):
        """Return the tuple of multipliers whose sum has no number below 0, but a bound below 0."""
        found = {self._endless: self._scale}
        for at, line in zip(self._basis, self._lines):
            found[at] = -line[self._endless]
        return tuple([ratio_of(found.get(at, 0), self._scale) for at in range(self._rows)])

    def _solve(self):
        """Make the sum of bounds the least one."""
        careful = False
        at = entering(self._costs[:-1], careful)
        while at != NONE:
            step = self._leaving(at)
            if step is None:
                self._endless = at
                return
            many, index, line = step
            if line == NONE:
                self._flip(at)
            else:
                if self._lines[line][at] < 0:
                    self._turn(line, index)
                self._pivot(line, at)
            # Where nothing is saved, the first one is taken always, so that it does not go round and round.
            careful = many == 0
            at = entering(self._costs[:-1], careful)

    def _leaving(self, at):
        """Return how far a number can grow, and the index and the line of the one that stops it.

        The line is NONE if it stops by itself; None is returned if nothing stops it.
        """
        best = (1, 1, at, NONE) if at < self._limited else None
        for number, line in enumerate(self._lines):
            index = self._basis[number]
            entry = line[at]
            if entry < 0 and index >= self._limited or entry == 0:
                continue
            many = line[-1] if entry > 0 else self._scale - line[-1]
            size = abs(entry)
            if best is not None:
                order = many * best[1] - best[0] * size
                if order > 0 or order == 0 and index > best[2]:
                    continue
            best = (many, size, index, number)
        return None if best is None else (best[0], best[2], best[3])

    def _flip(self, at):
        """Tell a multiplier by how much it is below 1, and so let it be 1."""
        self._lines = [line[:at] + [-line[at]] + line[at + 1:-1] + [line[-1] - line[at]] for line in self._lines]
        costs = self._costs
        self._costs = costs[:at] + [-costs[at]] + costs[at + 1:-1] + [costs[-1] - costs[at]]
        self._flipped[at] = not self._flipped.get(at, False)

    def _turn(self, number, index):
        """Tell the multiplier of a line by how much it is below 1."""
        line = [-told for told in self._lines[number]]
        line[index] = self._scale
        line[-1] += self._scale
        self._lines[number] = line
        self._flipped[index] = not self._flipped.get(index, False)

    def _pivot(self, number, at):
        """Let a line tell another number."""
        by = self._lines[number]
        lines = [line if k == number else pivoted(line, by, at, self._scale) for k, line in enumerate(self._lines)]
        self._lines = lines
        self._costs = pivoted(self._costs, by, at, self._scale)
        self._basis[number] = at
        self._scale = by[at]
