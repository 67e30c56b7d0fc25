"""Unions of single machines, their fares, and their cheapest members ([6.1])."""

from faremachines.errors import NotAllowed
from faremachines.machines import NONE, check_same_letters, least_of
from faremachines.singles import check_single, single_fare

MAX_UNION = 3
MAX_OWN = 6


def check_union(union):
    """Raise NotAllowed if a tuple of what could be single machines is not a union."""
    if not 1 <= len(union) <= MAX_UNION:
        raise NotAllowed("a union has 1 to 3 members")
    for member in union:
        check_single(member)
        check_same_letters(union[0], member)
        if len(member[2]) > MAX_OWN:
            raise NotAllowed("a member has at most 6 states")


def union_fare(union, log):
    """Return the fare of a log by a union, or NONE."""
    fares = [single_fare(member, log) for member in union]
    return least_of([fare for fare in fares if fare != NONE])


def cheapest_members(union, log):
    """Return the ascending tuple of the indexes of the members with the least fare of a log."""
    least = union_fare(union, log)
    if least == NONE:
        return ()
    return tuple([at for at, member in enumerate(union) if single_fare(member, log) == least])
