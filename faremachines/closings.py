"""Moves, closings, machines with closed moves, and vital moves ([11.1])."""

from faremachines.errors import NotAllowed
from faremachines.machines import NONE, best_way, fare_of, move_fare, way_fare


def moves_of(machine):
    """Return the list of the moves, in order."""
    found = []
    for state, rows in enumerate(machine[2]):
        for letter, row in zip(machine[0], rows):
            found.extend([(state, letter, after) for after, _ in row])
    return found


def is_move(machine, move):
    """Tell whether a triple of an integer, a text and an integer is a move of a machine."""
    state, letter, after = move
    if not 0 <= state < len(machine[1]) or letter not in machine[0]:
        return False
    return move_fare(machine, state, letter, after) != NONE


def check_closings(machine, closings):
    """Raise NotAllowed if a tuple of triples is not closings."""
    if not all([is_move(machine, move) for move in closings]):
        raise NotAllowed("this is no move of the machine")
    places = [(state, machine[0].index(letter), after) for state, letter, after in closings]
    if places != sorted(set(places)):
        raise NotAllowed("closings are different moves, in order")


def without(machine, closings):
    """Return a machine with some of its moves closed."""
    moves = []
    for state, rows in enumerate(machine[2]):
        pairs = list(zip(machine[0], rows))
        left = [[move for move in row if (state, letter, move[0]) not in closings] for letter, row in pairs]
        moves.append(tuple([tuple(row) for row in left]))
    return machine[0], machine[1], tuple(moves), machine[3]


def closed_machine(machine, closings):
    """Return the machine closed."""
    check_closings(machine, closings)
    return without(machine, closings)


def moves_along(log, way):
    """Return the list of the moves of a way, without those that come again, in the order in which they come."""
    found = {}
    for at, letter in enumerate(log):
        found[(way[at], letter, way[at + 1])] = True
    return list(found)


def vital_moves(machine, log):
    """Return the list of the pairs of a vital move and of the fare with it closed, or NONE, in order."""
    way = best_way(machine, log)
    if way is None:
        return []
    fare = way_fare(machine, log, way)
    # A move that is not on this way may be closed, and the log costs what it cost.
    found = moves_along(log, way)
    closed = [(move, fare_of(without(machine, (move,)), log)) for move in moves_of(machine) if move in found]
    return [(move, other) for move, other in closed if other != fare]
