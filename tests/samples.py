"""Machines for the tests, and answers that are worked out from the definitions, one row after another."""

import itertools
import random

NONE = -1
LETTERS = ("a", "b", "c", "d")

# The machines of the document's examples.
PLAIN = (("a", "b"), (0, 2), ((((0, 3),), ((1, 1),)), (((1, 1),), ((0, 0), (1, 5)))), (-1, 4))
SINGLE = (("a",), (0,), ((((0, 1),),),), (0,))
COUNTER = (("a", "b"), (0, 0), ((((0, 1),), ((0, 0),)), (((1, 0),), ((1, 1),))), (0, 0))
SWAPPING = (("a",), (0, 3), ((((1, 2),),), (((0, 2),),)), (0, 0))

# No log can be gone, as nothing leads from the first fare to the last one.
STUCK = (("a",), (0, -1), ((((0, 0),),), (((1, 0),),)), (-1, 0))

# State 1 leads nowhere, state 2 is never met; both of them have moves, and fares.
HALF_USEFUL = (
    ("a", "b"),
    (0, 1, NONE),
    (
        (((0, 1), (1, 2)), ((1, 0),)),
        (((1, 3),), ()),
        (((0, 0), (1, 1), (2, 5)), ((2, 1),)),
    ),
    (0, NONE, 7),
)

# The machine, and the walker, of the examples about regret.
FORK = (
    ("a", "b"),
    (0, NONE, NONE, NONE),
    (
        (((1, 0), (2, 0)), ((0, 1),)),
        (((3, 0),), ((3, 3),)),
        (((3, 2),), ((3, 0),)),
        (((3, 0),), ((3, 0),)),
    ),
    (0, 0, 0, 0),
)
FORK_WALKER = ((0, (1, 0)), (2, (2, 2)), (3, (2, 2)))

# A log of so many letters has as many ways, one for each place at which state 0 is left.
ROWS = (("a",), (0, NONE), ((((0, 0), (1, 0)),), (((1, 0),),)), (NONE, 0))


def random_machine(source, states, letters, density, most=9):
    """Return a machine of so many states and letters; density is the part of the fares that are there."""

    def fare():
        return source.randrange(most + 1) if source.random() < density else NONE

    def row():
        pairs = [(state, fare()) for state in range(states)]
        return tuple([pair for pair in pairs if pair[1] != NONE])

    firsts = tuple([fare() for _ in range(states)])
    lasts = tuple([fare() for _ in range(states)])
    moves = tuple([tuple([row() for _ in range(letters)]) for _ in range(states)])
    return LETTERS[:letters], firsts, moves, lasts


def random_machines(seed, many, states=3, letters=2):
    """Return a list of machines of up to so many states and letters, from sparse ones to full ones."""
    source = random.Random(seed)
    machines = []
    for _ in range(many):
        size = source.randrange(1, states + 1)
        width = source.randrange(1, letters + 1)
        density = source.choice([0.2, 0.4, 0.6, 0.9])
        machines.append(random_machine(source, size, width, density, source.choice([1, 9])))
    return machines


def levelled_machine(machine, heights):
    """Return a machine whose moves cost 5, more by the height ahead and less by the height behind."""
    moves = []
    for state, rows in enumerate(machine[2]):
        costs = [[(after, 5 + heights[state] - heights[after]) for after, _ in row] for row in rows]
        moves.append(tuple([tuple(row) for row in costs]))
    return machine[0], machine[1], tuple(moves), machine[3]


def logs_up_to(letters, longest):
    """Return the list of all logs of at most so many letters, in the order of logs."""
    return [log for length in range(longest + 1) for log in itertools.product(letters, repeat=length)]


def step_fare(machine, state, letter, after):
    """Return the fare of a move, or NONE."""
    row = dict(machine[2][state][machine[0].index(letter)])
    return row.get(after, NONE)


def rows_along(machine, log, states=None):
    """Return a list of all pairs of a row of states along a log, and the sum of its moves' fares."""
    states = range(len(machine[1])) if states is None else states
    found = []
    for row in itertools.product(states, repeat=len(log) + 1):
        fares = [step_fare(machine, row[at], letter, row[at + 1]) for at, letter in enumerate(log)]
        if NONE not in fares:
            found.append((row, sum(fares)))
    return found


def reached(machine, states, log):
    """Return the set of the states to which a log leads from some states."""
    found = set(states)
    for letter in log:
        found = set([after for state in found for after, _ in machine[2][state][machine[0].index(letter)]])
    return found


def ways_of(machine, log):
    """Return the list of all pairs (fare, way) of the ways of a log, in order."""
    ways = []
    for row, total in rows_along(machine, log):
        first, last = machine[1][row[0]], machine[3][row[-1]]
        if first != NONE and last != NONE:
            ways.append((first + total + last, row))
    return sorted(ways)


def least(numbers):
    """Return the least one of some numbers, or NONE."""
    return min(numbers, default=NONE)


def behind(machine, log):
    """Return the fares behind a log."""
    sums = [[] for _ in machine[1]]
    for row, total in rows_along(machine, log):
        if machine[1][row[0]] != NONE:
            sums[row[-1]].append(machine[1][row[0]] + total)
    return tuple([least(found) for found in sums])


def ahead(machine, log):
    """Return the fares from the beginning of a log."""
    sums = [[] for _ in machine[1]]
    for row, total in rows_along(machine, log):
        if machine[3][row[-1]] != NONE:
            sums[row[0]].append(total + machine[3][row[-1]])
    return tuple([least(found) for found in sums])


def known_fare(machine, log):
    """Return the fare of a log, from all its ways."""
    return least([fare for fare, _ in ways_of(machine, log)])


def edited_log(log, edit):
    """Return the log behind an edit."""
    letters = list(log)
    if edit[0] == "put":
        letters.insert(edit[1], edit[2])
    elif edit[0] == "cut":
        del letters[edit[1]]
    else:
        letters[edit[1]] = edit[2]
    return tuple(letters)


def possible_edits(machine, log):
    """Return the list of all possible edits of a log."""
    edits = [("cut", at) for at in range(len(log))]
    edits += [("change", at, letter) for at in range(len(log)) for letter in machine[0]]
    return edits + [("put", at, letter) for at in range(len(log) + 1) for letter in machine[0]]


def useful_states(machine):
    """Return the ascending list of the useful states, for machines of up to 4 states."""
    logs = logs_up_to(machine[0], len(machine[1]) - 1)
    met = [s for s in range(len(machine[1])) if any(behind(machine, log)[s] != NONE for log in logs)]
    return [s for s in met if any(ahead(machine, log)[s] != NONE for log in logs)]


def closed_useful(machine):
    """Return the set of useful states, for machines of any size, from all steps between states."""
    size = range(len(machine[1]))
    leads = [[s == t or any(t in dict(row) for row in machine[2][s]) for t in size] for s in size]
    for k in size:
        leads = [[leads[s][t] or (leads[s][k] and leads[k][t]) for t in size] for s in size]
    met = [t for t in size if any(machine[1][s] != NONE and leads[s][t] for s in size)]
    return [s for s in met if any(machine[3][t] != NONE and leads[s][t] for t in size)]


def variants(shape, value):
    """Return a list of values of a kind, each with one thing changed: another one, left out, twice, or exchanged.

    A shape is `int`, `str` (a letter, or the empty text), a list of one shape for a tuple of any
    length, or a tuple of shapes for a tuple of just these parts.
    """
    if shape is int:
        return [value - 1, value + 1]
    if shape is str:
        return [text for text in ("a", "b", "e", "") if text != value]
    if isinstance(shape, tuple):
        kinds = list(zip(shape, value))
        return [value[:k] + (other,) + value[k + 1:] for k, kind in enumerate(kinds) for other in variants(*kind)]
    found = []
    for k, part in enumerate(value):
        found += [value[:k] + value[k + 1:], value[:k] + (part, part) + value[k + 1:]]
        found += [value[:k] + (other,) + value[k + 1:] for other in variants(shape[0], part)]
        found += [value[:k] + (value[k + 1], part) + value[k + 2:]] if k + 1 < len(value) else []
    return found


def answer_of(function, *arguments):
    """Return what a call returns, or the name of the error that it raises."""
    try:
        return function(*arguments)
    except ValueError as error:
        return type(error).__name__


def random_single(source, states, letters, density, most=9):
    """Return a single machine of so many states and letters; density is the part of the fares that are there."""

    def fare():
        return source.randrange(most + 1) if source.random() < density else NONE

    def move():
        cost = fare()
        return (NONE, NONE) if cost == NONE else (source.randrange(states), cost)

    moves = tuple([tuple([move() for _ in range(letters)]) for _ in range(states)])
    return LETTERS[:letters], source.randrange(most + 1), moves, tuple([fare() for _ in range(states)])


def random_singles(seed, many, states=3, letters=2):
    """Return a list of single machines of up to so many states and letters, some of them without states."""
    source = random.Random(seed)
    singles = []
    for _ in range(many):
        size = source.randrange(1, states + 1)
        width = source.randrange(1, letters + 1)
        density = source.choice([0.3, 0.6, 0.8, 1])
        single = random_single(source, size, width, density, source.choice([1, 9]))
        singles.append(single if source.random() < 0.95 else (single[0], NONE, (), ()))
    return singles


def state_behind(single, log, state=0):
    """Return the state to which a log leads in a single machine, and the sum of the moves; None if to none."""
    total = 0
    for letter in log:
        after, fare = single[2][state][single[0].index(letter)]
        if after == NONE:
            return None
        state, total = after, total + fare
    return state, total


def cost_of(single, log):
    """Return the fare of a log by a single machine, or NONE."""
    found = state_behind(single, log) if single[2] else None
    if found is None or single[3][found[0]] == NONE:
        return NONE
    return single[1] + found[1] + single[3][found[0]]


def useful_in(single):
    """Return the set of the useful states of a single machine."""
    size = range(len(single[2]))
    leads = [[s == t or t in dict(single[2][s]) for t in size] for s in size]
    for k in size:
        leads = [[leads[s][t] or (leads[s][k] and leads[k][t]) for t in size] for s in size]
    return set([s for s in size if leads[0][s] and any(leads[s][t] and single[3][t] != NONE for t in size)])


def renumbered(single, order):
    """Return a single machine whose state k has the number order[k]; state 0 stays."""
    places = [order.index(k) for k in range(len(order))]
    rows = [[(order[after] if after != NONE else NONE, fare) for after, fare in single[2][k]] for k in places]
    return single[0], single[1], tuple([tuple(row) for row in rows]), tuple([single[3][k] for k in places])
