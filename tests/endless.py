"""What the points about endless logs say ([8.1] to [8.7]), as plainly as they say it."""

import itertools
import math
from fractions import Fraction

from tests.samples import NONE, step_fare


def steps_from(machine, state):
    """Return the list of all moves from a state: a letter, a state and a fare."""
    rows = zip(machine[0], machine[2][state])
    return [(letter, after, fare) for letter, row in rows for after, fare in row]


def met_states(machine):
    """Return the ascending list of the states that some log reaches from a first fare."""
    met = [state for state, fare in enumerate(machine[1]) if fare != NONE]
    for _ in machine[1]:
        met = sorted(set(met + [after for state in met for _, after, _ in steps_from(machine, state)]))
    return met


def round_means(machine):
    """Return the list of the means of all rounds that lead by no state twice, of states that are met."""
    means = []

    def go(start, state, seen, total):
        for _, after, fare in steps_from(machine, state):
            if after == start:
                means.append(Fraction(total + fare, len(seen)))
            elif after not in seen and after > start:
                go(start, after, seen + [after], total + fare)

    for start in met_states(machine):
        go(start, start, [start], 0)
    return means


def told(fraction):
    """Return a fraction as a ratio."""
    return fraction.numerator, fraction.denominator


def is_log_of(machine, log):
    """Tell whether a tuple of texts is a log over the letters of a machine."""
    return len(log) <= 400 and all(letter in machine[0] for letter in log)


def row_fare(machine, log, row):
    """Return the sum of the fares along a log by a row of states, None if it is no such row."""
    if len(row) != len(log) + 1 or any(state not in range(len(machine[1])) for state in row):
        return None
    fares = [step_fare(machine, row[at], letter, row[at + 1]) for at, letter in enumerate(log)]
    return None if NONE in fares else sum(fares)


def is_mean_paper(machine, greatest, paper):
    """Tell whether a mean paper is right."""
    (p, q), ahead, ring, ways, heights = paper
    if q < 1 or math.gcd(p, q) != 1 or not is_log_of(machine, ahead) or not is_log_of(machine, ring) or not ring:
        return False
    if row_fare(machine, ahead, ways[0]) is None or row_fare(machine, ring, ways[1]) is None:
        return False
    if machine[1][ways[0][0]] == NONE or not ways[0][-1] == ways[1][0] == ways[1][-1]:
        return False
    if q * row_fare(machine, ring, ways[1]) != p * len(ring) or len(heights) != len(machine[1]):
        return False
    for state, height in enumerate(heights):
        if height is None:
            if machine[1][state] != NONE:
                return False
            continue
        for _, after, fare in steps_from(machine, state):
            if heights[after] is None:
                return False
            more = q * fare - p - (heights[after] - height)
            if more > 0 if greatest else more < 0:
                return False
    return True


def mean_along(machine, ahead, ring):
    """Return the mean of an endless log, None if it has no endless way: by places in the round, and states."""
    states = set(state for state, fare in enumerate(machine[1]) if fare != NONE)
    for letter in ahead:
        states = set(t for s in states for t, _ in machine[2][s][machine[0].index(letter)])
    found = {(0, state): True for state in states}
    for place, state in (queue := list(found)):
        for after, _ in machine[2][state][machine[0].index(ring[place])]:
            behind = ((place + 1) % len(ring), after)
            if behind not in found:
                found[behind] = True
                queue.append(behind)
    means = []
    for start in found:
        sums = {start: 0}
        for count in range(1, len(found) + 1):
            fresh = {}
            for place, state in sums:
                for after, fare in machine[2][state][machine[0].index(ring[place])]:
                    behind = ((place + 1) % len(ring), after)
                    more = sums[(place, state)] + fare
                    fresh[behind] = min(fresh.get(behind, more), more)
            sums = fresh
            if start in sums:
                means.append(Fraction(sums[start], count))
    return min(means, default=None)


def calls_at(machine, state):
    """Return the list of the rows of moves from a state, of the letters by which there is a move."""
    return [row for row in machine[2][state] if row]


def worth_of(machine, state):
    """Return the worth of a state: by all choices of the caller for states, and of the walker for their letters."""
    size = range(len(machine[1]))
    calls = [calls_at(machine, s) for s in size]
    best = None
    for called in itertools.product(*calls):
        means = []
        for chosen in itertools.product(*called):
            seen, place, sums = [], state, [0]
            while place not in seen:
                seen.append(place)
                sums.append(sums[-1] + chosen[place][1])
                place = chosen[place][0]
            begin = seen.index(place)
            means.append(Fraction(sums[-1] - sums[begin], len(seen) - begin))
        best = min(means) if best is None else max(best, min(means))
    return best


def is_walker_paper(machine, ratio, paper):
    """Tell whether a walker's paper is right."""
    p, q = ratio
    if len(paper) != len(machine[1]) or min(paper) < NONE:
        return False
    for state, c in enumerate(paper):
        for row in calls_at(machine, state) if c != NONE else []:
            if not any(paper[after] != NONE and paper[after] <= c + p - q * fare for after, fare in row):
                return False
    return True


def is_caller_paper(machine, ratio, paper):
    """Tell whether a caller's paper is right."""
    p, q = ratio
    if len(paper) != len(machine[1]) or min(paper) < NONE:
        return False
    for state, c in enumerate(paper):
        rows = calls_at(machine, state)
        good = [all(paper[after] != NONE and paper[after] <= c + q * fare - p for after, fare in row) for row in rows]
        if c != NONE and not any(good):
            return False
    return True


def need_of(machine, income, most=900):
    """Return the list of the needs, lifted one by one; NONE for what is above so much, more than any need."""
    found = [0] * len(machine[1])
    while True:
        lifted = []
        for state, credit in enumerate(found):
            rows = calls_at(machine, state)
            needed = max(
                min(most if found[after] == most else max(0, found[after] + fare - income) for after, fare in row)
                for row in rows
            )
            lifted.append(min(max(credit, needed), most))
        if lifted == found:
            return [NONE if credit == most else credit for credit in found]
        found = lifted


def is_broke_paper(machine, income, paper):
    """Tell whether a broke paper is right."""
    if len(set((state, credit) for state, credit, _, _ in paper)) != len(paper):
        return False
    for state, credit, rank, letter in paper:
        if state not in range(len(machine[1])) or credit < 0 or rank < 0 or letter not in machine[0]:
            return False
        row = machine[2][state][machine[0].index(letter)]
        if not row:
            return False
        for after, fare in row:
            left = credit + income - fare
            if left >= 0 and not any(s == after and c >= left and k < rank for s, c, k, _ in paper):
                return False
    return True
