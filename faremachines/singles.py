"""Single machines, their fares, and the least one that costs the same ([5.1], [5.2])."""

from faremachines.errors import NotAllowed
from faremachines.machines import NONE
from faremachines.words import check_letters, check_log

MAX_SINGLE = 60
MAX_COST = 1000000


def is_cost(number):
    """Tell whether an integer is a fare of a single machine."""
    return 0 <= number <= MAX_COST


def is_pair(pair, many):
    """Tell whether a state and a fare are a move, or none, in a single machine with so many states."""
    state, fare = pair
    return pair == (NONE, NONE) or (0 <= state < many and is_cost(fare))


def check_single(single):
    """Raise NotAllowed if a tuple of four parts is no single machine."""
    letters, first, moves, lasts = single
    check_letters(letters)
    many = len(moves)
    if many > MAX_SINGLE or len(lasts) != many:
        raise NotAllowed("a single machine has 0 to 60 states, each with a last fare or none")
    if (many == 0) != (first == NONE):
        raise NotAllowed("there is no first fare just if there are no states")
    if not all([fare == NONE or is_cost(fare) for fare in (first,) + lasts]):
        raise NotAllowed("a first or last fare is from 0 to 1000000, or NONE")
    for row in moves:
        if len(row) != len(letters) or not all([is_pair(pair, many) for pair in row]):
            raise NotAllowed("a state has a state and a fare for each letter, or NONE twice")


def along(single, log, state):
    """Return the state to which a log leads from one, NONE if to none, and the sum of the fares of its moves."""
    total = 0
    for letter in log:
        if state == NONE:
            break
        state, fare = single[2][state][single[0].index(letter)]
        total += fare
    return state, total


def start_of(single):
    """Return the state in which logs begin, or NONE."""
    return 0 if single[2] else NONE


def single_fare(single, log):
    """Return the fare of a log by a single machine, or NONE."""
    check_log(single[0], log)
    state, total = along(single, log, start_of(single))
    if state == NONE or single[3][state] == NONE:
        return NONE
    return single[1] + total + single[3][state]


def states_from_start(single, good):
    """Return the list of the good states that are met by good ones, in the order in which they are met."""
    met = [0] if 0 in good else []
    at = 0
    while at < len(met):
        for after, _ in single[2][met[at]]:
            if after in good and after not in met:
                met.append(after)
        at += 1
    return met


def least_ends(single):
    """Return the list of the least fare from each state to an end, by any log, or NONE."""
    ends = list(single[3])
    # A log with more letters than there are states leads by some state twice, and costs no less.
    for _ in range(len(ends)):
        for state, row in enumerate(single[2]):
            sums = [fare + ends[after] for after, fare in row if after != NONE and ends[after] != NONE]
            known = [] if ends[state] == NONE else [ends[state]]
            ends[state] = min(sums + known, default=NONE)
    return ends


def open_states(single):
    """Return the ascending list of the states from which some log leads to an end."""
    return [state for state, end in enumerate(least_ends(single)) if end != NONE]


def useful_of(single):
    """Return the ascending list of the states that some log meets, and from which some log leads to an end."""
    return sorted(states_from_start(single, open_states(single)))


def paid_early(single, ends, good):
    """Return the rows of moves and the last fares of the good states, when fares are paid as early as they are certain.

    Both are dicts. A row has NONE twice where it leads to no good state.
    """
    rows = {}
    lasts = {}
    for state in good:
        pairs = [pair if pair[0] in good else (NONE, NONE) for pair in single[2][state]]
        rows[state] = [
            (after, NONE if after == NONE else fare + ends[after] - ends[state]) for after, fare in pairs
        ]
        lasts[state] = NONE if single[3][state] == NONE else single[3][state] - ends[state]
    return rows, lasts


def parted(rows, lasts):
    """Return a dict with a number for each state: the same for those from which all logs cost the same."""
    parts = {state: 0 for state in rows}
    many = 0
    while True:
        marks = {}
        for state in rows:
            going = [(NONE if after == NONE else parts[after], fare) for after, fare in rows[state]]
            marks[state] = (parts[state], lasts[state], tuple(going))
        numbers = {}
        for state in rows:
            numbers.setdefault(marks[state], len(numbers))
        # A part is never put together with another one again, so that as many are the same ones.
        if len(numbers) == many:
            return parts
        many = len(numbers)
        parts = {state: numbers[marks[state]] for state in rows}


def least_single(single):
    """Return the least single machine that costs the same for all logs."""
    ends = least_ends(single)
    good = states_from_start(single, open_states(single))
    if not good:
        return single[0], NONE, (), ()
    rows, lasts = paid_early(single, ends, good)
    parts = parted(rows, lasts)
    # The states are in the order in which they are met, and so are the parts, which get their numbers so.
    heads = []
    for state in good:
        if parts[state] == len(heads):
            heads.append(state)
    moves = []
    for state in heads:
        moves.append(tuple([(NONE if after == NONE else parts[after], fare) for after, fare in rows[state]]))
    return single[0], single[1] + ends[0], tuple(moves), tuple([lasts[state] for state in heads])
