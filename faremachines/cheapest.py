"""The cheapest ways of a log in order, their papers, and the judge ([3.3], [3.4])."""

from faremachines.errors import NotAllowed
from faremachines.machines import NONE, fares_ahead, row_by, rows_ahead, way_fare
from faremachines.words import check_log

MAX_WAYS = 20


def check_number(many):
    """Raise NotAllowed if an integer is no number of ways that can be asked for."""
    if not 1 <= many <= MAX_WAYS:
        raise NotAllowed("it is asked for 1 to 20 ways")


def first_row(machine):
    """Return the pairs of a state and its first fare, as a row."""
    return [(state, fare) for state, fare in enumerate(machine[1]) if fare != NONE]


def best_rests(row, rests, many):
    """Return the list of the so many cheapest rests of ways that begin with a row of moves.

    A rest is its fare, the state to which its first move leads, and its index among the rests of this
    state; so of rests with the same fare the first one as a tuple of states comes first.
    """
    found = []
    for after, fare in row:
        found.extend([(fare + rest[0], after, index) for index, rest in enumerate(rests[after])])
    return sorted(found)[:many]


def rests_ahead(machine, log, many):
    """Return a list with, for each number of letters gone, the lists of the cheapest rests of the states."""
    layers = [[[(last, NONE, 0)] if last != NONE else [] for last in machine[3]]]
    for letter in reversed(log):
        behind = layers[-1]
        states = range(len(behind))
        layers.append([best_rests(row_by(machine, state, letter), behind, many) for state in states])
    layers.reverse()
    return layers


def way_by_rests(layers, start, first):
    """Return the way that goes on from a state with the rest of it that has an index."""
    way = [start]
    state = start
    index = first
    for rests in layers[:-1]:
        _, state, index = rests[state][index]
        way.append(state)
    return tuple(way)


def cheapest_ways(machine, log, many):
    """Return the list of the pairs of a fare and a way of the so many cheapest ways, or of all."""
    check_log(machine[0], log)
    check_number(many)
    layers = rests_ahead(machine, log, many)
    best = best_rests(first_row(machine), layers[0], many)
    return [(fare, way_by_rests(layers, start, index)) for fare, start, index in best]


def paper_of(machine, log):
    """Return a right paper for the cheapest ways of a log."""
    check_log(machine[0], log)
    return tuple(rows_ahead(machine, machine[3], log))


def are_in_order(machine, log, ways):
    """Tell whether pairs are different ways of a log with their fares, in order."""
    if not all([ahead < behind for ahead, behind in zip(ways, ways[1:])]):
        return False
    return all([fare != NONE and way_fare(machine, log, way) == fare for fare, way in ways])


def are_bounds(row, fares):
    """Tell whether the integers of a row stand where there are fares, and are not above them."""
    return len(row) == len(fares) and all([
        bound == NONE if fare == NONE else 0 <= bound <= fare for bound, fare in zip(row, fares)
    ])


def is_bounding(machine, log, paper):
    """Tell whether a tuple of tuples of integers has bounds for the rests of ways of a log."""
    if len(paper) != len(log) + 1 or paper[-1] != machine[3]:
        return False
    # From the end on, as the row behind has to have an integer for each state before it can be used.
    for at in reversed(range(len(log))):
        if not are_bounds(paper[at], fares_ahead(machine, paper[at + 1], log[at])):
            return False
    return True


def row_behind(machine, log, beginning):
    """Return the pairs of a state by which a beginning goes on, and of what this costs."""
    if len(beginning) == 0:
        return first_row(machine)
    return row_by(machine, beginning[-1], log[len(beginning) - 1])


def beginnings_of(machine, log, ways):
    """Return a dict with the beginnings of ways, the one without states too, and what each costs."""
    fares = {(): 0}
    for _, way in ways:
        for size, state in enumerate(way):
            beginning = way[:size]
            cost = dict(row_behind(machine, log, beginning))[state]
            fares[beginning + (state,)] = fares[beginning] + cost
    return fares


def is_none_left_out(machine, log, many, ways, paper):
    """Tell whether each beginning that turns off has to be behind the last one of so many ways."""
    fares = beginnings_of(machine, log, ways)
    for beginning in fares:
        size = len(beginning)
        if size > len(log):
            continue
        for state, cost in row_behind(machine, log, beginning):
            turned = beginning + (state,)
            bound = paper[size][state]
            if turned in fares or bound == NONE:
                continue
            if len(ways) < many or (fares[beginning] + cost + bound, turned) < ways[-1]:
                return False
    return True


def judge(machine, log, many, ways, paper):
    """Tell whether a list has the so many cheapest ways of a log, or all, and a paper shows this."""
    check_log(machine[0], log)
    check_number(many)
    if len(ways) > many or not are_in_order(machine, log, ways):
        return False
    return is_bounding(machine, log, paper) and is_none_left_out(machine, log, many, ways, paper)
