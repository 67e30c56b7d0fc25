"""What the points about tariffs say ([10.1] to [10.7]), as plainly as they say it."""

import itertools
import math
import random
from fractions import Fraction

from tests.samples import NONE, random_machine, step_fare


def unknowns(frame):
    """Return the list of the unknowns."""
    letters, firsts, moves, lasts = frame
    found = [("first", state) for state in range(len(firsts)) if firsts[state] != NONE]
    for state, letter, after in itertools.product(range(len(firsts)), letters, range(len(firsts))):
        found += [("move", state, letter, after)] if step_fare(frame, state, letter, after) != NONE else []
    return found + [("last", state) for state in range(len(lasts)) if lasts[state] != NONE]


def paid_on(log, way):
    """Return the list of the unknowns that are paid on a way, one after another."""
    moves = [("move", way[at], letter, way[at + 1]) for at, letter in enumerate(log)]
    return [("first", way[0])] + moves + [("last", way[-1])]


def counts(frame, log, way):
    """Return the counts of a way."""
    return tuple([paid_on(log, way).count(unknown) for unknown in unknowns(frame)])


def ways(frame, log):
    """Return the ascending list of the ways of a log."""
    found = [(state,) for state, fare in enumerate(frame[1]) if fare != NONE]
    for letter in log:
        size = range(len(frame[1]))
        found = [way + (t,) for way in found for t in size if step_fare(frame, way[-1], letter, t) != NONE]
    return [way for way in found if frame[3][way[-1]] != NONE]


def rows(frame, receipts):
    """Return the list of the rows of receipts."""
    found = []
    for receipt in receipts:
        own = counts(frame, receipt[1], receipt[2])
        if receipt[0] == "least":
            for way in ways(frame, receipt[1]):
                if way != receipt[2]:
                    found.append((tuple([a - b for a, b in zip(own, counts(frame, receipt[1], way))]), 0))
        else:
            if receipt[3] in ("=", "<="):
                found.append((own, receipt[4]))
            if receipt[3] in ("=", ">="):
                found.append((tuple([-a for a in own]), -receipt[4]))
    size = len(unknowns(frame))
    return found + [(tuple([int(k == at) for k in range(size)]), 99) for at in range(size)]


def fractions(ratios, many):
    """Return the list of the fractions that so many ratios tell, or None if they are no ratios from 0 on."""
    if len(ratios) != many or any(q < 1 or math.gcd(p, q) != 1 or p < 0 for p, q in ratios):
        return None
    return [Fraction(p, q) for p, q in ratios]


def summed(numbers, told):
    """Return the sum of numbers, times fractions."""
    return sum([number * ratio for number, ratio in zip(numbers, told)], Fraction(0))


def is_true(frame, receipt, told):
    """Tell whether a receipt is true by fractions for the unknowns."""
    cost = summed(counts(frame, receipt[1], receipt[2]), told)
    if receipt[0] == "least":
        return all(summed(counts(frame, receipt[1], way), told) >= cost for way in ways(frame, receipt[1]))
    return {"=": cost == receipt[4], "<=": cost <= receipt[4], ">=": cost >= receipt[4]}[receipt[3]]


def is_possible(frame, receipts, tariff):
    """Tell whether pairs are a possible tariff."""
    told = fractions(tariff, len(unknowns(frame)))
    if told is None or any(ratio > 99 for ratio in told):
        return False
    return all(is_true(frame, receipt, told) for receipt in receipts)


def combined(told_rows, multipliers):
    """Return the numbers and the bound of the sum of rows, times fractions."""
    size = len(told_rows[0][0])
    numbers = [sum([k * row[0][at] for k, row in zip(multipliers, told_rows)], Fraction(0)) for at in range(size)]
    return numbers, sum([k * row[1] for k, row in zip(multipliers, told_rows)], Fraction(0))


def is_top_paper(frame, receipts, numbers, paper):
    """Tell whether a top paper is right."""
    (p, q), tariff, multipliers = paper
    told_rows = rows(frame, receipts)
    told = fractions(multipliers, len(told_rows))
    if q < 1 or math.gcd(p, q) != 1 or told is None or not is_possible(frame, receipts, tariff):
        return False
    value = Fraction(p, q)
    if summed(numbers, [Fraction(*ratio) for ratio in tariff]) != value:
        return False
    sums, bound = combined(told_rows, told)
    return all(a >= b for a, b in zip(sums, numbers)) and bound == value


def is_contradiction(frame, receipts, paper):
    """Tell whether a paper of contradiction is right."""
    told_rows = rows(frame, receipts)
    told = fractions(paper, len(told_rows))
    if told is None:
        return False
    sums, bound = combined(told_rows, told)
    return min(sums) >= 0 and bound < 0


def is_error_paper(frame, receipts, paper):
    """Tell whether an error paper is right."""
    (p, q), tariff, errors, multipliers = paper
    told_rows = rows(frame, receipts)
    size = len(unknowns(frame))
    ratios, more, told = fractions(tariff, size), fractions(errors, len(told_rows) - size), fractions(multipliers, len(told_rows))
    if q < 1 or math.gcd(p, q) != 1 or ratios is None or more is None or told is None or max(ratios) > 99:
        return False
    if sum(more, Fraction(0)) != Fraction(p, q) or any(k > 1 for k in told[:len(more)]):
        return False
    for (numbers, bound), error in zip(told_rows, more):
        if summed(numbers, ratios) > bound + error:
            return False
    sums, bound = combined(told_rows, told)
    return min(sums) >= 0 and bound == -Fraction(p, q)


def random_frame(source, states=3, letters=2):
    """Return a frame with 3 to 20 unknowns, some log of which can be gone."""
    while True:
        machine = random_machine(source, source.randrange(1, states + 1), source.randrange(1, letters + 1), source.choice([0.5, 0.7, 0.9]))
        gone = any(ways(machine, log) for size in range(3) for log in itertools.product(machine[0], repeat=size))
        if 3 <= len(unknowns(machine)) <= 20 and gone:
            return machine


def random_receipts(source, frame, many, longest=3, amiss=0):
    """Return a list of receipts for a few ways, true by the machine's own fares but where their amounts are amiss."""
    logs = [log for size in range(longest + 1) for log in itertools.product(frame[0], repeat=size)]
    pool = [log for log in logs if 0 < len(ways(frame, log)) <= 30]
    pool = [(log, source.choice(ways(frame, log))) for log in source.sample(pool, min(len(pool), 3))]
    found = []
    while pool and len(found) < many:
        log, way = source.choice(pool)
        costs = {w: sum([fare_of_unknown(frame, unknown) for unknown in paid_on(log, w)]) for w in ways(frame, log)}
        if source.random() < 0.3:
            found.append(("least", log, way if source.random() < amiss else min(costs, key=lambda w: costs[w])))
            continue
        word = source.choice(["=", "<=", ">="])
        more = {"=": 0, "<=": source.randrange(3), ">=": -source.randrange(3)}[word]
        more += source.choice([-6, -3, -1, 1, 2, 5]) if source.random() < amiss else 0
        found.append(("paid", log, way, word, max(0, costs[way] + more)))
    return found


def fare_of_unknown(frame, unknown):
    """Return the fare of an unknown in the machine itself."""
    if unknown[0] == "move":
        return step_fare(frame, *unknown[1:])
    return frame[1 if unknown[0] == "first" else 3][unknown[1]]


def own_tariff(frame):
    """Return the tariff of the machine's own fares."""
    return tuple([(fare_of_unknown(frame, unknown), 1) for unknown in unknowns(frame)])


def cases(seed, many, receipts=4, amiss=0.4):
    """Return a list of pairs of a frame and a list of receipts, some of which contradict one another."""
    source = random.Random(seed)
    found = []
    while len(found) < many:
        frame = random_frame(source)
        size = source.choice([source.randrange(receipts + 1), receipts])
        found.append((frame, random_receipts(source, frame, size, 3, source.choice([0, amiss, 1.5 * amiss]))))
    return found
