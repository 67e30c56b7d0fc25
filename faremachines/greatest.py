"""Cut rows, the first log that costs so much, row papers, and the greatest fare ([7.6], [7.7])."""

from faremachines.errors import Missing, NotAllowed, TooLarge
from faremachines.limits import is_limited
from faremachines.machines import NONE, fares_after, least_sum
from faremachines.rounds import useful
from faremachines.words import MAX_LOG

MAX_ROWS = 2000


def check_cut(c):
    """Raise NotAllowed if an integer is below 1."""
    if c < 1:
        raise NotAllowed("fares are cut at 1 or more")


def cut(fares, c):
    """Return fares cut at an integer."""
    return tuple([min(fare, c) for fare in fares])


def rows_up(machine, c):
    """Return a dict with how each cut row comes up, and the first one with which a log costs so much, or None.

    A row comes up behind another one, by a letter; the first one by nothing. In the order of logs,
    those that come up behind the one with which a log costs so much are not in the dict.
    """
    first = cut(machine[1], c)
    found = {first: None}
    queue = [first]
    at = 0
    while at < len(queue):
        row = queue[at]
        if least_sum(row, machine[3]) >= c:
            return found, row
        if at == MAX_ROWS:
            raise TooLarge("more than 2000 rows come up")
        for letter in machine[0]:
            after = cut(fares_after(machine, row, letter), c)
            if after not in found:
                found[after] = (row, letter)
                queue.append(after)
        at += 1
    return found, None


def log_behind(found, row):
    """Return the log behind which a cut row comes up first."""
    letters = []
    while found[row] is not None:
        row, letter = found[row]
        letters.append(letter)
    letters.reverse()
    return tuple(letters)


def first_log(machine, c):
    """Return the first log that can be gone and costs at least so much."""
    check_cut(c)
    found, row = rows_up(machine, c)
    if row is None:
        raise Missing("no log costs so much")
    log = log_behind(found, row)
    if len(log) > MAX_LOG:
        raise TooLarge("the log has more than 400 letters")
    return log


def row_paper(machine, c):
    """Return the least right row paper."""
    check_cut(c)
    found, row = rows_up(machine, c)
    if row is not None:
        raise Missing("a log costs so much")
    return tuple(sorted(found))


def is_row_told(machine, c, row):
    """Tell whether a tuple of integers can be a row of a row paper, behind which no log costs so much."""
    if len(row) != len(machine[1]) or not all([NONE <= fare <= c for fare in row]):
        return False
    return least_sum(row, machine[3]) < c


def judge_rows(machine, c, paper):
    """Tell whether a tuple of tuples of integers is a right row paper."""
    check_cut(c)
    if list(paper) != sorted(set(paper)) or not all([is_row_told(machine, c, row) for row in paper]):
        return False
    rows = {row: True for row in paper}
    if cut(machine[1], c) not in rows:
        return False
    return all([cut(fares_after(machine, row, letter), c) in rows for row in paper for letter in machine[0]])


def fare_behind_rows(machine, found, row):
    """Return the fare of the log behind which a cut row comes up first."""
    fares = machine[1]
    for letter in log_behind(found, row):
        fares = fares_after(machine, fares, letter)
    return least_sum(fares, machine[3])


def looked_at(machine, c):
    """Return True and the greatest fare of all, if it is less than so much; or False and a fare that is not less.

    Return False and None if too many rows come up.
    """
    try:
        found, row = rows_up(machine, c)
    except TooLarge:
        return False, None
    if row is not None:
        return False, fare_behind_rows(machine, found, row)
    return True, max([least_sum(known, machine[3]) for known in found])


def greatest_fare(machine):
    """Return the greatest fare of a limited machine."""
    if not is_limited(machine) or not useful(machine):
        raise Missing("there is no greatest fare")
    # The greatest fare is at least low - 1. For a greater cut no fewer rows come up, so that when too
    # many come up for one of at most the greatest fare and 1, they do so for this one, too.
    low = 1
    high = None
    while high is None or low < high:
        c = 2 * low if high is None else (low + high) // 2
        ended, fare = looked_at(machine, c)
        if ended:
            return fare
        if fare is None:
            high = c
        else:
            low = fare + 1
    raise TooLarge("more than 2000 rows come up")
