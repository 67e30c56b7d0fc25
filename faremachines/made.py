"""Machines made single, and single machines told as machines ([5.5])."""

from faremachines.errors import TooLarge
from faremachines.machines import MAX_FARE, MAX_STATES, NONE, fares_after, least_of, least_sum
from faremachines.rounds import useful
from faremachines.singles import MAX_SINGLE, least_single


def fares_of_good(fares, good):
    """Return fares with NONE in the place of those of states that are not good."""
    return tuple([fare if state in good else NONE for state, fare in enumerate(fares)])


def offsets_of(fares):
    """Return the least one of some fares, and by how much each of them is greater; NONE if there are none."""
    least = least_of([fare for fare in fares if fare != NONE])
    return least, tuple([NONE if fare == NONE else fare - least for fare in fares])


def offsets_met(machine):
    """Return the list of the offsets that are met, the first ones first, and the rows of moves between them."""
    good = useful(machine)
    found = [offsets_of(fares_of_good(machine[1], good))[1]]
    moves = []
    while len(moves) < len(found):
        row = []
        for letter in machine[0]:
            paid, offsets = offsets_of(fares_of_good(fares_after(machine, found[len(moves)], letter), good))
            if paid == NONE:
                row.append((NONE, NONE))
                continue
            if offsets not in found:
                found.append(offsets)
            row.append((found.index(offsets), paid))
        if len(found) > MAX_SINGLE:
            raise TooLarge("more than 60 different offsets are met")
        moves.append(tuple(row))
    return found, tuple(moves)


def made(machine):
    """Return the least single machine that costs the same as a machine for all logs."""
    first = offsets_of(fares_of_good(machine[1], useful(machine)))[0]
    found, moves = offsets_met(machine)
    lasts = tuple([least_sum(offsets, machine[3]) for offsets in found])
    return least_single((machine[0], first, moves, lasts))


def row_told(row):
    """Return the rows of moves of a machine that are a single machine's row."""
    return tuple([() if state == NONE else ((state, fare),) for state, fare in row])


def as_machine(single):
    """Return the machine with the same states, moves and fares as a single machine."""
    letters, first, moves, lasts = single
    if len(moves) > MAX_STATES:
        raise TooLarge("a machine has at most 8 states")
    if max([first, *lasts] + [fare for row in moves for _, fare in row]) > MAX_FARE:
        raise TooLarge("a machine's fares are at most 99")
    if not moves:
        return letters, (NONE,), (((),) * len(letters),), (NONE,)
    firsts = (first,) + (NONE,) * (len(moves) - 1)
    return letters, firsts, tuple([row_told(row) for row in moves]), lasts
