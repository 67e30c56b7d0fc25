"""Fares that rise with each use of a move: the fares by uses, and the corners ([11.7])."""

from faremachines.closings import is_move
from faremachines.errors import NotAllowed
from faremachines.machines import NONE, fare_of
from faremachines.words import check_log

MAX_RISE = 1000000
# More than any way costs, so that it stands for none.
BEYOND = 1000000000


def check_use(machine, log, move):
    """Raise NotAllowed if a log is none, or a triple is not a move of the machine."""
    check_log(machine[0], log)
    if not is_move(machine, move):
        raise NotAllowed("this is no move of the machine")


def least_lists(lists, length):
    """Return the list of the least integers of some lists at each index, as long as is told."""
    if not lists:
        return [BEYOND] * length
    least = lists[0]
    for other in lists[1:]:
        least = [min(one, two) for one, two in zip(least, other)]
    return least


def sums_behind(machine, sums, letter, move):
    """Return the list of the sums by uses, for each state, behind one letter more; all sums are as many."""
    at = machine[0].index(letter)
    # Only by its own letter the move can be used once more.
    more = [BEYOND] if letter == move[1] else []
    found = [[] for _ in sums]
    for state, rows in enumerate(machine[2]):
        for after, fare in rows[at]:
            costs = [told + fare for told in sums[state]]
            found[after].append(more + costs if (state, letter, after) == move else costs + more)
    return [least_lists(lists, len(sums[0]) + len(more)) for lists in found]


def fares_told(machine, log, move):
    """Return the list of the fares by uses of a log, or NONE."""
    sums = [[BEYOND if fare == NONE else fare] for fare in machine[1]]
    for letter in log:
        sums = sums_behind(machine, sums, letter, move)
    many = len(sums[0])
    ends = [[told + last for told in row] for row, last in zip(sums, machine[3]) if last != NONE]
    least = least_lists(ends, many) + [BEYOND] * (len(log) + 1 - many)
    return [NONE if told >= BEYOND else told for told in least]


def fares_by_uses(machine, log, move):
    """Return the list of the fares by uses of a log, from 0 to the number of its letters."""
    check_use(machine, log, move)
    return fares_told(machine, log, move)


def risen_row(row, after, rise):
    """Return a row in which the move to a state costs so much more."""
    return tuple([(state, fare + rise if state == after else fare) for state, fare in row])


def risen_fare(machine, log, move, rise):
    """Return what a log costs if each use of a move costs a rise more, or NONE."""
    check_use(machine, log, move)
    if not 0 <= rise <= MAX_RISE:
        raise NotAllowed("a rise is from 0 to 1000000")
    state, letter, after = move
    at = machine[0].index(letter)
    moves = list(machine[2])
    rows = list(moves[state])
    rows[at] = risen_row(rows[at], after, rise)
    moves[state] = tuple(rows)
    return fare_of((machine[0], machine[1], tuple(moves), machine[3]), log)


def uses_at(known, rise):
    """Return the fewest uses of the ways that are the cheapest with a rise; the fares are told with their uses."""
    return min([(fare + uses * rise, uses) for uses, fare in known])[1]


def corners(machine, log, move):
    """Return the list of the corners: rises, and the fewest uses of the ways that are the cheapest then."""
    check_use(machine, log, move)
    known = [(uses, fare) for uses, fare in enumerate(fares_told(machine, log, move)) if fare != NONE]
    if not known:
        return []
    found = [(0, uses_at(known, 0))]
    while found[-1][1] > known[0][0]:
        many = found[-1][1]
        paid = dict(known)[many]
        # From the quotient on, rounded up, fewer uses cost no more than these.
        rises = [-((paid - fare) // (many - uses)) for uses, fare in known if uses < many]
        found.append((min(rises), uses_at(known, min(rises))))
    return found
