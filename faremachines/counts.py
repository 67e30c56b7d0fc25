"""How many ways: the counts behind logs, and tables of them ([2.1], [2.2])."""

from faremachines.errors import NotAllowed, TooLarge
from faremachines.machines import NONE
from faremachines.rounds import useful

MAX_WAYS_ASKED = 5
MAX_TABLE = 1000


def check_many(many):
    """Raise NotAllowed if an integer is no number of ways that can be asked for."""
    if not 1 <= many <= MAX_WAYS_ASKED:
        raise NotAllowed("it is asked for 1 to 5 ways")


def first_counts(machine, good):
    """Return the counts behind the empty log, by the useful states."""
    return tuple([1 if state in good and fare != NONE else 0 for state, fare in enumerate(machine[1])])


def counts_after(machine, good, many, counts, at):
    """Return the counts to which the letter with an index leads, by the useful states."""
    behind = [0] * len(counts)
    for state in good:
        for after, _ in machine[2][state][at]:
            behind[after] += counts[state]
    return tuple([min(behind[state], many + 1) if state in good else 0 for state in range(len(counts))])


def are_too_many(machine, many, counts):
    """Tell whether the counts of the states with a last fare are more than so many together."""
    return sum([count for count, last in zip(counts, machine[3]) if last != NONE]) > many


def at_most(machine, many):
    """Return True and the least right table, or False and the first log with more ways."""
    check_many(many)
    good = useful(machine)
    counts = first_counts(machine, good)
    if are_too_many(machine, many, counts):
        return False, ()
    logs = {counts: ()}
    queue = [counts]
    seen = 0
    while seen < len(queue):
        counts = queue[seen]
        for at, letter in enumerate(machine[0]):
            behind = counts_after(machine, good, many, counts, at)
            if behind in logs:
                continue
            log = logs[counts] + (letter,)
            if are_too_many(machine, many, behind):
                return False, log
            if len(queue) == MAX_TABLE:
                raise TooLarge("more than 1000 tuples are met")
            logs[behind] = log
            queue.append(behind)
        seen += 1
    return True, tuple(sorted(queue))


def is_table_form(machine, many, table):
    """Tell whether a tuple of tuples of integers is a table, right or not."""
    if list(table) != sorted(set(table)):
        return False
    if not all([len(counts) == len(machine[1]) for counts in table]):
        return False
    return all([0 <= count <= many + 1 for counts in table for count in counts])


def is_table(machine, many, table):
    """Tell whether a tuple of tuples of integers is a right table for so many ways."""
    check_many(many)
    good = useful(machine)
    if not is_table_form(machine, many, table) or first_counts(machine, good) not in table:
        return False
    known = {counts: True for counts in table}
    for counts in table:
        if are_too_many(machine, many, counts):
            return False
        for at in range(len(machine[0])):
            if counts_after(machine, good, many, counts, at) not in known:
                return False
    return True
