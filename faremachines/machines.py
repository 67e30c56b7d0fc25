"""Machines: ways, fares, and machines put together ([1.3] to [1.6])."""

from faremachines.errors import NotAllowed, TooLarge
from faremachines.words import check_letters, check_log

MAX_STATES = 8
MAX_FARE = 99
NONE = -1


def is_fare(number):
    """Tell whether an integer is a fare."""
    return 0 <= number <= MAX_FARE


def is_row(row, many):
    """Tell whether pairs are the moves by a letter, in a machine with so many states."""
    states = [move[0] for move in row]
    if states != sorted(set(states)):
        return False
    return all([0 <= state < many and is_fare(fare) for state, fare in row])


def check_machine(machine):
    """Raise NotAllowed if a tuple of four parts is not a machine."""
    letters, firsts, moves, lasts = machine
    check_letters(letters)
    many = len(firsts)
    if not 1 <= many <= MAX_STATES:
        raise NotAllowed("a machine has 1 to 8 states")
    if len(moves) != many or len(lasts) != many:
        raise NotAllowed("each state has moves, and a last fare or none")
    if not all([fare == NONE or is_fare(fare) for fare in firsts + lasts]):
        raise NotAllowed("a first or last fare is from 0 to 99, or NONE")
    for rows in moves:
        if len(rows) != len(letters):
            raise NotAllowed("each state has a row of moves for each letter")
        if not all([is_row(row, many) for row in rows]):
            raise NotAllowed("moves lead to different states, ascending, for fares from 0 to 99")


def row_by(machine, state, letter):
    """Return the moves by a letter from a state."""
    return machine[2][state][machine[0].index(letter)]


def least_of(sums):
    """Return the least one of some integers from 0 on, or NONE if there are none."""
    return min(sums, default=NONE)


def fares_after(machine, fares, letter):
    """Return the fares behind one letter more than those that are told."""
    sums = [[] for fare in fares]
    for state, fare in enumerate(fares):
        if fare == NONE:
            continue
        for after, cost in row_by(machine, state, letter):
            sums[after].append(fare + cost)
    return tuple([least_of(found) for found in sums])


def fares_ahead(machine, fares, letter):
    """Return the fares from the beginning of a log that has one letter more at its beginning."""
    found = []
    for state in range(len(fares)):
        row = row_by(machine, state, letter)
        found.append(least_of([cost + fares[after] for after, cost in row if fares[after] != NONE]))
    return tuple(found)


def rows_behind(machine, fares, log):
    """Return the list of some fares, and of those behind each letter of a log that comes then."""
    rows = [fares]
    for letter in log:
        rows.append(fares_after(machine, rows[-1], letter))
    return rows


def rows_ahead(machine, fares, log):
    """Return the list of the fares from ahead of each letter of a log, and of those that are told behind it."""
    rows = [fares]
    for letter in reversed(log):
        rows.append(fares_ahead(machine, rows[-1], letter))
    rows.reverse()
    return rows


def least_sum(fares, others):
    """Return the least sum of two fares of one state, or NONE."""
    return least_of([fare + other for fare, other in zip(fares, others) if NONE not in (fare, other)])


def fares_behind(machine, log):
    """Return the fares behind a log."""
    check_log(machine[0], log)
    return rows_behind(machine, machine[1], log)[-1]


def fares_from(machine, log):
    """Return the fares from the beginning of a log."""
    check_log(machine[0], log)
    return rows_ahead(machine, machine[3], log)[0]


def fare_of(machine, log):
    """Return the fare of a log, or NONE."""
    return least_sum(fares_behind(machine, log), machine[3])


def cheapest_state(pairs, rests):
    """Return the first state with the least sum of its fare in the pairs and of its rest, or NONE."""
    known = [(state, fare) for state, fare in pairs if fare != NONE and rests[state] != NONE]
    sums = [(fare + rests[state], state) for state, fare in known]
    return min(sums)[1] if sums else NONE


def best_way(machine, log):
    """Return the first one, as a tuple, of the ways with the least fare, or None."""
    check_log(machine[0], log)
    rests = rows_ahead(machine, machine[3], log)
    state = cheapest_state(list(enumerate(machine[1])), rests[0])
    if state == NONE:
        return None
    way = [state]
    for letter, fares in zip(log, rests[1:]):
        way.append(cheapest_state(row_by(machine, way[-1], letter), fares))
    return tuple(way)


def count_ways(machine, log):
    """Return the number of the ways of a log."""
    check_log(machine[0], log)
    counts = [1 if fare != NONE else 0 for fare in machine[1]]
    for letter in log:
        behind = [0] * len(counts)
        for state, count in enumerate(counts):
            for after, _ in row_by(machine, state, letter):
                behind[after] += count
        counts = behind
    return sum([count for count, last in zip(counts, machine[3]) if last != NONE])


def move_fare(machine, state, letter, after):
    """Return the fare of the move by a letter from a state to another one, or NONE."""
    for found, fare in row_by(machine, state, letter):
        if found == after:
            return fare
    return NONE


def fare_along(machine, log, row):
    """Return the sum of the fares of moves along a log by a row of states, NONE if it is no such row."""
    if len(row) != len(log) + 1:
        return NONE
    if not all([0 <= state < len(machine[1]) for state in row]):
        return NONE
    total = 0
    for at, letter in enumerate(log):
        fare = move_fare(machine, row[at], letter, row[at + 1])
        if fare == NONE:
            return NONE
        total += fare
    return total


def way_fare(machine, log, way):
    """Return the fare of a way of a log, NONE if a tuple of integers is no way of it."""
    between = fare_along(machine, log, way)
    if between == NONE:
        return NONE
    first = machine[1][way[0]]
    last = machine[3][way[-1]]
    return NONE if NONE in (first, last) else first + between + last


def fare_by(machine, log, way):
    """Return the fare of a way of a log."""
    check_log(machine[0], log)
    fare = way_fare(machine, log, way)
    if fare == NONE:
        raise NotAllowed("these states are no way of the log")
    return fare


def check_same_letters(first, second):
    """Raise NotAllowed if two machines have other letters."""
    if first[0] != second[0]:
        raise NotAllowed("the machines have other letters")


def either(first, second):
    """Return the machine by which a log costs the lesser one of both fares."""
    check_same_letters(first, second)
    many = len(first[1])
    if many + len(second[1]) > MAX_STATES:
        raise TooLarge("there would be more than 8 states")
    moves = list(first[2])
    for rows in second[2]:
        moves.append(tuple([tuple([(after + many, fare) for after, fare in row]) for row in rows]))
    return first[0], first[1] + second[1], tuple(moves), first[3] + second[3]


def fare_sums(ones, others):
    """Return the sums of each of some fares and each of others, NONE if one of both is."""
    return tuple([one + other if NONE not in (one, other) else NONE for one in ones for other in others])


def row_of_both(one, other, many):
    """Return the moves by a letter from a pair of states, whose second machine has so many states."""
    return tuple([(a * many + b, f + g) for a, f in one for b, g in other])


def both(first, second):
    """Return the machine by which a log costs the sum of both fares."""
    check_same_letters(first, second)
    many = len(second[1])
    if len(first[1]) * many > MAX_STATES:
        raise TooLarge("there would be more than 8 states")
    firsts = fare_sums(first[1], second[1])
    lasts = fare_sums(first[3], second[3])
    moves = []
    for ones in first[2]:
        for others in second[2]:
            moves.append(tuple([row_of_both(one, other, many) for one, other in zip(ones, others)]))
    fares = [fare for rows in moves for row in rows for _, fare in row]
    if max([*firsts, *lasts, *fares]) > MAX_FARE:
        raise TooLarge("there would be a fare above 99")
    return first[0], firsts, tuple(moves), lasts


def turned_row(moves, state, at):
    """Return the moves that lead to a state by the letter with an index, turned round."""
    row = []
    for before, rows in enumerate(moves):
        row.extend([(before, fare) for after, fare in rows[at] if after == state])
    return tuple(row)


def turned(machine):
    """Return the machine by which a log costs what it costs from its end."""
    letters, firsts, moves, lasts = machine
    rows = []
    for state in range(len(firsts)):
        rows.append(tuple([turned_row(moves, state, at) for at in range(len(letters))]))
    return letters, lasts, tuple(rows), firsts
