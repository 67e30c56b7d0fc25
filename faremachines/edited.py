"""A log that is kept with a machine and edited ([3.2])."""

from faremachines.errors import NotAllowed
from faremachines.machines import fare_of, fares_after, least_sum, rows_ahead, rows_behind
from faremachines.words import MAX_LOG, check_log


def exchanged(letters, length, edit):
    """Return what an edit exchanges in a log of so many letters: a slice's two ends, and the letters put there."""
    word = edit[0]
    at = edit[1]
    put = edit[2:]
    if not all([letter in letters for letter in put]):
        raise NotAllowed("an edit puts a letter of the machine")
    if word == "put" and len(put) == 1 and 0 <= at <= length and length < MAX_LOG:
        return at, at, put
    if word == "cut" and len(put) == 0 and 0 <= at < length:
        return at, at + 1, put
    if word == "change" and len(put) == 1 and 0 <= at < length:
        return at, at + 1, put
    raise NotAllowed("the edit is not possible")


class Edited:
    """A log that is kept with a machine, with the fares behind and from each of its places."""

    def __init__(self, machine, log):
        check_log(machine[0], log)
        self._machine = machine
        self._log = log
        self._behind = rows_behind(machine, machine[1], log)
        self._ahead = rows_ahead(machine, machine[3], log)

    def log(self):
        """Return the log."""
        return self._log

    def fare(self):
        """Return the fare of the log, or NONE."""
        return least_sum(self._machine[1], self._ahead[0])

    def length(self):
        """Return the number of the letters of the log."""
        return len(self._log)

    def edit(self, edit):
        """Make an edit."""
        first, last, put = exchanged(self._machine[0], len(self._log), edit)
        ahead = self._log[:first] + put
        rest = put + self._log[last:]
        # The fares behind what stands ahead of the edit stay, and so do those from what stands behind it.
        self._behind = self._behind[:first] + rows_behind(self._machine, self._behind[first], rest)
        self._ahead = rows_ahead(self._machine, self._ahead[last], ahead) + self._ahead[last + 1:]
        self._log = self._log[:first] + rest

    def slice_fare(self, first, last):
        """Return the fare of the letters of a slice, or NONE."""
        if not 0 <= first <= last <= len(self._log):
            raise NotAllowed("a slice begins and ends in the log")
        return fare_of(self._machine, self._log[first:last])

    def fares_behind(self, count):
        """Return the fares behind the first so many letters."""
        self._check_count(count)
        return self._behind[count]

    def fares_from(self, count):
        """Return the fares from the beginning of the letters behind the first so many."""
        self._check_count(count)
        return self._ahead[count]

    def fare_with(self, edit):
        """Return the fare that the log would have behind an edit, which is not made."""
        first, last, put = exchanged(self._machine[0], len(self._log), edit)
        fares = self._behind[first]
        for letter in put:
            fares = fares_after(self._machine, fares, letter)
        return least_sum(fares, self._ahead[last])

    def copy(self):
        """Return an independent one."""
        return Edited(self._machine, self._log)

    def _check_count(self, count):
        """Raise NotAllowed if the log has not so many letters."""
        if not 0 <= count <= len(self._log):
            raise NotAllowed("the log has not so many letters")
