"""What the points about closed moves say ([11.1] to [11.7]), as plainly as they say it."""

import itertools

from tests import tables
from tests.samples import NONE, least, logs_up_to, random_machines, step_fare, ways_of

FORK = (
    ("a",), (0, NONE, NONE, NONE), ((((1, 0), (2, 1)),), (((3, 0),),), (((3, 3),),), ((),)), (NONE, NONE, NONE, 0),
)


def moves(machine):
    """Return the list of the moves, in order."""
    size = range(len(machine[1]))
    told = itertools.product(size, machine[0], size)
    return [(state, letter, after) for state, letter, after in told if step_fare(machine, state, letter, after) != NONE]


def closed(machine, closings):
    """Return a machine without some moves."""
    rows = []
    for state, own in enumerate(machine[2]):
        kept = [[move for move in row if (state, letter, move[0]) not in closings] for letter, row in zip(machine[0], own)]
        rows.append(tuple([tuple(row) for row in kept]))
    return machine[0], machine[1], tuple(rows), machine[3]


def fare(machine, log):
    """Return the fare of a log, from all its ways."""
    return least([fare for fare, _ in ways_of(machine, log)])


def moves_on(log, way):
    """Return the list of the moves of a way, one for each letter."""
    return [(way[at], letter, way[at + 1]) for at, letter in enumerate(log)]


def are_holding(machine, log, c, closings):
    """Tell whether closings hold a log: each way that costs so little has one of the moves."""
    cheap = [way for cost, way in ways_of(machine, log) if cost <= c]
    return all(any(move in closings for move in moves_on(log, way)) for way in cheap)


def fewest(machine, log, c, most=4):
    """Return the fewest closings that hold a log, None if there are none with at most so many moves."""
    cheap = [set(moves_on(log, way)) for cost, way in ways_of(machine, log) if cost <= c]
    on_ways = [move for move in moves(machine) if any(move in way for way in cheap)]
    for many in range(most + 1):
        for closings in itertools.combinations(on_ways, many):
            if all(way & set(closings) for way in cheap):
                return closings
    return None


def is_ways_paper(machine, log, c, k, paper):
    """Tell whether a ways paper is right."""
    cheap = [way for cost, way in ways_of(machine, log) if cost <= c]
    if paper[0] == "apart" and len(paper) == 2:
        told = [move for way in paper[1] for move in set(moves_on(log, way))] if all(w in cheap for w in paper[1]) else None
        return told is not None and len(told) == len(set(told)) and len(paper[1]) > k
    return is_tree(machine, log, c, k, paper)


def is_tree(machine, log, c, k, paper):
    """Tell whether a ways paper is a right one of the form tree."""
    if paper[0] != "tree" or len(paper) != 3 or (paper[1] not in [w for cost, w in ways_of(machine, log) if cost <= c]):
        return False
    on_way = list(dict.fromkeys(moves_on(log, paper[1])))
    if k == 0:
        return paper[2] == ()
    if len(paper[2]) != len(on_way):
        return False
    return all(is_tree(closed(machine, (move,)), log, c, k - 1, part) for move, part in zip(on_way, paper[2]))


def sets(machine, d):
    """Return the list of the closings of at most so many moves."""
    return [closings for many in range(d + 1) for closings in itertools.combinations(moves(machine), many)]


def is_standing(machine, d, paper):
    """Tell whether a standing paper is right."""
    if [closings for closings, _ in paper] != sets(machine, d):
        return False
    return all(tables.is_closed(closed(machine, closings), found) for closings, found in paper)


def value(machine, log, reserve, state):
    """Return what is forced from a state by a log, NONE if the walker cannot promise to come through."""
    if not log:
        return machine[3][state]
    row = machine[2][state][machine[0].index(log[0])]
    plans = [(row, reserve)]
    if reserve > 0:
        plans += [([other for other in row if other != move], reserve - 1) for move in row]
    worst = []
    for left, rest in plans:
        sums = [(cost, value(machine, log[1:], rest, after)) for after, cost in left]
        worst.append(least([cost + more for cost, more in sums if more != NONE]))
    return NONE if NONE in worst else max(worst)


def forced(machine, log, reserve):
    """Return what is forced by a log."""
    firsts = [(first, value(machine, log, reserve, state)) for state, first in enumerate(machine[1]) if first != NONE]
    return least([first + more for first, more in firsts if more != NONE])


def are_shaped(machine, log, reserve, numbers):
    """Tell whether numbers have a layer for each number of letters, a row for each reserve, and integers in it."""
    if len(numbers) != len(log) + 1 or any(len(layer) != reserve + 1 for layer in numbers):
        return False
    return all(len(row) == len(machine[1]) and min(row) >= NONE for layer in numbers for row in layer)


def is_above(machine, log, reserve, c, numbers):
    """Tell whether numbers are right from above."""
    if c == NONE or not are_shaped(machine, log, reserve, numbers):
        return False
    size = range(len(machine[1]))
    for row in numbers[-1]:
        if any(row[s] != NONE and (machine[3][s] == NONE or row[s] < machine[3][s]) for s in size):
            return False
    for at, letter in enumerate(log):
        for left, s in itertools.product(range(reserve + 1), size):
            own = numbers[at][left][s]
            if own == NONE:
                continue

            def keeps(move, rest):
                behind = numbers[at + 1][rest][move[0]]
                return behind != NONE and move[1] + behind <= own

            row = machine[2][s][machine[0].index(letter)]
            if not any(keeps(move, left) for move in row):
                return False
            if left > 0 and not all(any(keeps(other, left - 1) for other in row if other != move) for move in row):
                return False
    firsts = [(machine[1][s], numbers[0][reserve][s]) for s in size]
    return any(NONE not in pair and sum(pair) <= c for pair in firsts)


def is_below(machine, log, reserve, c, numbers):
    """Tell whether numbers are right from below."""
    if not are_shaped(machine, log, reserve, numbers):
        return False
    size = range(len(machine[1]))
    for row in numbers[-1]:
        if any(machine[3][s] != NONE and not 0 <= row[s] <= machine[3][s] for s in size):
            return False
    for at, letter in enumerate(log):
        for left, s in itertools.product(range(reserve + 1), size):
            own = numbers[at][left][s]

            def holds(move, rest):
                behind = numbers[at + 1][rest][move[0]]
                return behind == NONE or (own != NONE and own <= move[1] + behind)

            row = machine[2][s][machine[0].index(letter)]
            good = all(holds(move, left) for move in row)
            if left > 0 and not good:
                good = any(all(holds(other, left - 1) for other in row if other != move) for move in row)
            if not good:
                return False
    begun = [(machine[1][s], numbers[0][reserve][s]) for s in size if machine[1][s] != NONE and numbers[0][reserve][s] != NONE]
    return not begun if c == NONE else all(first + more >= c for first, more in begun)


def by_uses(machine, log, move):
    """Return the list of the fares by uses of a move."""
    told = [(moves_on(log, way).count(move), cost) for cost, way in ways_of(machine, log)]
    return [least([cost for uses, cost in told if uses == j]) for j in range(len(log) + 1)]


def machines_and_logs(seed, many, states=3, letters=2, longest=4):
    """Return a list of pairs of a machine and a log of it, some of which cannot be gone."""
    found = []
    for at, machine in enumerate(random_machines(seed, many, states, letters)):
        logs = logs_up_to(machine[0], longest)
        found.append((machine, logs[(at * 7919) % len(logs)]))
    return found
