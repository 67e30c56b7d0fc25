"""Offices: machines with numbers and bounds, a log that keeps them, and images ([9.1] to [9.3])."""

from faremachines.edited import exchanged
from faremachines.errors import BadForm, Broken, Missing, NotAllowed, TooLarge
from faremachines.machines import NONE, check_machine, fare_of, is_fare
from faremachines.texts import fare_text, letters_in, letters_line, machine_lines, number_in, read_body
from faremachines.words import check_letters, is_log, log_text

MAX_KEPT = 6
MAX_NUMBER = 999999
MAX_BOUND = 99999
MAX_IMAGE = 40000


def check_bounds(kept, log):
    """Raise Broken if a log does not keep the bound of one of some machines."""
    for number, machine, bound in kept:
        fare = NONE if bound == NONE else fare_of(machine, log)
        if bound != NONE and (fare == NONE or fare > bound):
            raise Broken(number, fare)


def check_place(machine, states, fare):
    """Raise NotAllowed if a machine lacks one of some states, or an integer is neither a fare nor NONE."""
    if not all([0 <= state < len(machine[1]) for state in states]):
        raise NotAllowed("there is no such state")
    if fare != NONE and not is_fare(fare):
        raise NotAllowed("a fare is from 0 to 99, or NONE")


def exchanged_at(parts, at, part):
    """Return a tuple with another part at an index."""
    return parts[:at] + (part,) + parts[at + 1:]


def row_with(row, after, fare):
    """Return a row in which the move to a state costs a fare, or is not there."""
    others = [move for move in row if move[0] != after]
    return tuple(sorted(others + ([] if fare == NONE else [(after, fare)])))


def moves_with(machine, state, letter, move):
    """Return the moves of a machine with another move, a state and a fare, by a letter from a state."""
    at = machine[0].index(letter)
    rows = machine[2][state]
    return exchanged_at(machine[2], state, exchanged_at(rows, at, row_with(rows[at], move[0], move[1])))


class Office:
    """Letters, machines over them with numbers and bounds, and a log that keeps all bounds."""

    def __init__(self, letters):
        """Begin without machines, and with the empty log."""
        check_letters(letters)
        self._letters = letters
        # The number that comes next, the triples of a number, a machine and its bound, and the log.
        self._now = (1, (), ())
        self._past = []

    def letters(self):
        """Return the letters."""
        return self._letters

    def machines(self):
        """Return the list of the triples of a number, a machine and its bound, in the order of the numbers."""
        return list(self._now[1])

    def log(self):
        """Return the log."""
        return self._now[2]

    def fares(self):
        """Return the list of the pairs of a number and the fare of the log by this machine."""
        return [(number, fare_of(machine, self._now[2])) for number, machine, _ in self._now[1]]

    def changes(self):
        """Return the number of the changes in force."""
        return len(self._past)

    def add(self, machine):
        """Add a machine without a bound, and return its number."""
        check_machine(machine)
        if machine[0] != self._letters:
            raise NotAllowed("the machine has other letters")
        number, kept, log = self._now
        if len(kept) == MAX_KEPT or number > MAX_NUMBER:
            raise TooLarge("there are at most 6 machines, with numbers of at most 999999")
        self._change((number + 1, kept + ((number, machine, NONE),), log))
        return number

    def drop(self, number):
        """Take a machine away, with its bound."""
        at = self._index_of(number)
        upcoming, kept, log = self._now
        self._change((upcoming, kept[:at] + kept[at + 1:], log))

    def set_bound(self, number, bound):
        """Give a machine another bound, or none."""
        at = self._index_of(number)
        if not NONE <= bound <= MAX_BOUND:
            raise NotAllowed("a bound is from 0 to 99999, or NONE")
        self._put(at, self._now[1][at][1], bound)

    def set_first(self, number, state, fare):
        """Give a state of a machine another first fare, or none."""
        at = self._index_of(number)
        _, machine, bound = self._now[1][at]
        check_place(machine, (state,), fare)
        letters, firsts, moves, lasts = machine
        self._put(at, (letters, exchanged_at(firsts, state, fare), moves, lasts), bound)

    def set_last(self, number, state, fare):
        """Give a state of a machine another last fare, or none."""
        at = self._index_of(number)
        _, machine, bound = self._now[1][at]
        check_place(machine, (state,), fare)
        letters, firsts, moves, lasts = machine
        self._put(at, (letters, firsts, moves, exchanged_at(lasts, state, fare)), bound)

    def set_move(self, number, state, letter, after, fare):
        """Let the move of a machine by a letter from a state to another one cost a fare, or let there be none."""
        at = self._index_of(number)
        _, machine, bound = self._now[1][at]
        check_place(machine, (state, after), fare)
        if letter not in self._letters:
            raise NotAllowed("there is no such letter")
        moves = moves_with(machine, state, letter, (after, fare))
        self._put(at, (machine[0], machine[1], moves, machine[3]), bound)

    def edit(self, edit):
        """Edit the log."""
        upcoming, kept, log = self._now
        first, last, put = exchanged(self._letters, len(log), edit)
        self._change((upcoming, kept, log[:first] + put + log[last:]))

    def undo(self):
        """Take back the last change in force."""
        if not self._past:
            raise Missing("there is no change that could be taken back")
        self._now = self._past.pop()

    def copy(self):
        """Return an office like this one, with the same changes in force."""
        other = Office(self._letters)
        other._now = self._now
        other._past = list(self._past)
        return other

    def image(self):
        """Return the image."""
        upcoming, kept, log = self._now
        lines = [f"office {upcoming}", letters_line(self._letters)]
        for number, machine, bound in kept:
            lines.append(f"machine {number} {fare_text(bound)}")
            lines.extend(machine_lines(machine))
        lines.append("log " + log_text(log))
        return "".join([line + "\n" for line in lines])

    def restored(self, upcoming, kept, log):
        """Return an office with these letters, but with the number that comes next, the machines and the log told."""
        check_bounds(kept, log)
        other = Office(self._letters)
        other._now = (upcoming, kept, log)
        return other

    def _index_of(self, number):
        """Return the index of the machine with a number."""
        numbers = [row[0] for row in self._now[1]]
        if number not in numbers:
            raise Missing("there is no machine with this number")
        return numbers.index(number)

    def _put(self, at, machine, bound):
        """Put a machine with its bound in the place of the one with an index."""
        upcoming, kept, log = self._now
        self._change((upcoming, exchanged_at(kept, at, (kept[at][0], machine, bound)), log))

    def _change(self, after):
        """Make a change, behind which there are the number that comes next, the machines and the log told."""
        _, kept, log = self._now
        # What was there with this log keeps its bound already.
        fresh = [row for row in after[1] if after[2] != log or row not in kept]
        check_bounds(fresh, after[2])
        self._past.append(self._now)
        self._now = after


def upcoming_in(line):
    """Return the number that comes next, as a line tells it, or None."""
    parts = line.split(" ")
    if len(parts) != 2 or parts[0] != "office":
        return None
    number = number_in(parts[1], MAX_NUMBER + 1)
    return number if number is not None and number >= 1 else None


def head_in(line, last, upcoming):
    """Return the number and the bound that a line tells, or None if no machine is begun by it.

    The number is greater than the last one, and less than the one that comes next.
    """
    parts = line.split(" ")
    if len(parts) != 3 or parts[0] != "machine":
        return None
    number = number_in(parts[1], MAX_NUMBER)
    bound = NONE if parts[2] == "none" else number_in(parts[2], MAX_BOUND)
    if number is None or bound is None or not last < number < upcoming:
        return None
    return number, bound


def log_in(letters, line):
    """Return the log that a line tells, or None if it is no line of a log."""
    if not line.startswith("log "):
        return None
    rest = line[len("log "):]
    log = tuple(rest.split(" ")) if rest != "" else ()
    return log if is_log(letters, log) else None


def read_kept(letters, upcoming, lines):
    """Return the tuple of the machines with their numbers and bounds from the third line on, and where they end."""
    kept = ()
    last = 0
    at = 2
    while at < len(lines) and len(kept) < MAX_KEPT:
        head = head_in(lines[at], last, upcoming)
        if head is None:
            break
        machine, end = read_body(letters, lines, at + 1)
        if machine is None:
            raise BadForm(at + 2)
        last, bound = head
        kept = kept + ((last, machine, bound),)
        at = end
    return kept, at


def load_office(text):
    """Return the office of an image."""
    if len(text) > MAX_IMAGE:
        raise BadForm(0)
    lines = text.split("\n")
    # What stands behind the last newline is no line: it has to be empty.
    rest = lines.pop()
    upcoming = upcoming_in(lines[0]) if lines else None
    if upcoming is None:
        raise BadForm(1)
    letters = letters_in(lines[1]) if len(lines) > 1 else None
    if letters is None:
        raise BadForm(2)
    kept, at = read_kept(letters, upcoming, lines)
    log = log_in(letters, lines[at]) if at < len(lines) else None
    if log is None:
        raise BadForm(at + 1)
    if at + 1 < len(lines) or rest != "":
        raise BadForm(at + 2)
    return Office(letters).restored(upcoming, kept, log)
