"""Machines that stay limited whatever few moves are closed, and standing papers ([11.4])."""

from itertools import combinations

from faremachines.closings import moves_of, without
from faremachines.errors import Missing, NotAllowed, TooLarge
from faremachines.limits import closed_paper, is_limited, judge_closed

MAX_STOOD = 2
MAX_CLOSED_SETS = 100


def check_stood(d):
    """Raise NotAllowed if an integer is no number of closings that can be asked for."""
    if not 0 <= d <= MAX_STOOD:
        raise NotAllowed("it is asked for 0 to 2 closings")


def many_sets(machine, d):
    """Return the number of the closings of at most so many moves."""
    many = len(moves_of(machine))
    sizes = [1, many, many * (many - 1) // 2]
    return sum(sizes[:d + 1])


def sets_of(machine, d):
    """Return the list of the closings of at most so many moves, those with fewer first, of as many in their order."""
    moves = moves_of(machine)
    return [closings for size in range(d + 1) for closings in combinations(moves, size)]


def check_sets(machine, d):
    """Raise NotAllowed if so many closings cannot be asked for, TooLarge if there are too many such closings."""
    check_stood(d)
    if many_sets(machine, d) > MAX_CLOSED_SETS:
        raise TooLarge("there are more than 100 such closings")


def first_unlimited(machine, d):
    """Return the first closings of at most so many moves with which a machine is not limited."""
    check_sets(machine, d)
    for closings in sets_of(machine, d):
        if not is_limited(without(machine, closings)):
            return closings
    raise Missing("the machine stands these closings")


def standing_paper(machine, d):
    """Return the standing paper with the least closed papers."""
    check_sets(machine, d)
    # A closed paper is Missing where the machine is not limited.
    return tuple([(closings, closed_paper(without(machine, closings))) for closings in sets_of(machine, d)])


def judge_standing(machine, d, paper):
    """Tell whether a tuple of pairs of closings and of a closed paper is a right standing paper."""
    check_stood(d)
    if len(paper) != many_sets(machine, d) or [closings for closings, _ in paper] != sets_of(machine, d):
        return False
    return all([judge_closed(without(machine, closings), tables) for closings, tables in paper])
