"""The made paper, the first dearer log, what is told of two unions, and the least part ([6.1], [6.6], [6.7])."""

from itertools import combinations

from faremachines.cells import first_place, judge_cells, place_after, weighed
from faremachines.errors import Missing, NotAllowed, TooLarge
from faremachines.machines import NONE, check_same_letters, least_of
from faremachines.singles import open_states, start_of

MAX_PART = 2
MAX_PLACES = 400
MAX_LETTERS_TRIED = 7


def places_up(union, single, place):
    """Return a dict with the steps from each place that comes up from one: pairs of a place and the members' steps."""
    good = open_states(single)
    found = {}
    fresh = [place]
    while fresh:
        place = fresh.pop()
        if place in found:
            continue
        if len(found) == MAX_PLACES:
            raise TooLarge("more than 400 places come up")
        behind = [place_after(union, single, good, place, at) for at in range(len(single[0]))]
        found[place] = [step for step in behind if step is not None]
        fresh.extend([after for after, _ in found[place]])
    return found


def leads_by(before, place, passed):
    """Return whether what led to a place led by another one; a dict tells the place ahead of each, or None."""
    while place is not None and place != passed:
        place = before[place]
    return place is not None


def endless_behind(sums, steps, place):
    """Put None in the place of the sums of a place, and of all to which it leads."""
    fresh = [place]
    while fresh:
        place = fresh.pop()
        if place not in sums or sums[place] is not None:
            sums[place] = None
            fresh.extend([after for after, _ in steps[place]])


def greatest_sums(start, first, steps):
    """Return a dict with the greatest sum that comes up at each place, None if there is no greatest one.

    At the start it is at least the first sum; steps are pairs of a place and of what is added.
    """
    sums = {start: first}
    before = {start: None}
    queue = [start]
    at = 0
    while at < len(queue):
        place = queue[at]
        at += 1
        for after, more in steps[place]:
            # Behind a place with no greatest sum there is none, either: nothing is added to None.
            if after in sums and (sums[after] is None or sums[after] >= sums[place] + more):
                continue
            if leads_by(before, place, after):
                # The round from there back to it adds more, as often as one likes.
                endless_behind(sums, steps, after)
                continue
            sums[after] = sums[place] + more
            before[after] = place
            queue.append(after)
    return sums


def all_weights(members):
    """Return the ascending list of the weights of bounds in made papers, but those that are all 0."""
    found = [()]
    for _ in range(members):
        found = [weights + (weight,) for weights in found for weight in range(MAX_PART + 1)]
    return found[1:]


def going_on(place, weights):
    """Tell whether no member with a weight has stopped at a place."""
    return all([weight == 0 or state != NONE for weight, state in zip(weights, place[1])])


def bounds_by(places, start, weights):
    """Return a dict with the bound with some weights at each place that has one."""
    place, gaps = start
    steps = {}
    for ahead in places:
        if going_on(ahead, weights):
            # Members stop for good: what leads to such a place leads by such places.
            afters = [(after, weighed(weights, more)) for after, more in places[ahead]]
            steps[ahead] = [(after, more) for after, more in afters if going_on(after, weights)]
    if place not in steps:
        return {}
    sums = greatest_sums(place, weighed(weights, gaps), steps)
    return {known: (weights, sums[known]) for known in sums if sums[known] is not None}


def made_cells(union, single):
    """Return the made paper that a union is never dearer than a single machine; it need not be right."""
    start = first_place(union, single)
    if start is None:
        return ()
    places = places_up(union, single, start[0])
    bounds = [bounds_by(places, start, weights) for weights in all_weights(len(union))]
    cells = []
    for place in sorted(places):
        cells.append((place, tuple([known[place] for known in bounds if place in known]), ()))
    return tuple(cells)


def begun(union):
    """Return the tuple of pairs of the state and of what is paid of each member, ahead of all letters."""
    return tuple([(start_of(member), member[1]) for member in union])


def gone_on(union, pairs, at):
    """Return the pairs of the state and of what is paid of each member, behind the letter with an index."""
    found = []
    for member, (state, paid) in zip(union, pairs):
        after, fare = (NONE, NONE) if state == NONE else member[2][state][at]
        found.append((NONE, NONE) if after == NONE else (after, paid + fare))
    return tuple(found)


def fare_at(union, pairs):
    """Return the fare of the log behind which members have some states and have paid some sums, or NONE."""
    lasts = [(paid, NONE if state == NONE else member[3][state]) for member, (state, paid) in zip(union, pairs)]
    return least_of([paid + last for paid, last in lasts if last != NONE])


def is_dearer_there(first, second, ones, others):
    """Tell whether the log behind which two unions stand so is dearer in the first one."""
    fare = fare_at(first, ones)
    other = fare_at(second, others)
    return other != NONE and (fare == NONE or fare > other)


def gaps_between(ones, others):
    """Return how two unions stand, with what all have paid less the least sum, so that like ones go on alike."""
    paid = [sum_paid for state, sum_paid in ones + others if state != NONE]
    least = min(paid, default=0)
    return tuple([(state, NONE if state == NONE else sum_paid - least) for state, sum_paid in ones + others])


def dearer_log_or_none(first, second, most):
    """Return the first log of at most so many letters that is dearer in the first union, or None."""
    queue = [((), begun(first), begun(second))]
    seen = {gaps_between(begun(first), begun(second)): True}
    at = 0
    while at < len(queue):
        log, ones, others = queue[at]
        at += 1
        if is_dearer_there(first, second, ones, others):
            return log
        if len(log) == most:
            continue
        for index, letter in enumerate(first[0][0]):
            afters = (gone_on(first, ones, index), gone_on(second, others, index))
            told = gaps_between(afters[0], afters[1])
            if told not in seen:
                seen[told] = True
                queue.append((log + (letter,), afters[0], afters[1]))
    return None


def dearer_log(first, second, most):
    """Return the first log of at most so many letters that is dearer in the first union."""
    check_same_letters(first[0], second[0])
    if not 0 <= most <= MAX_LETTERS_TRIED:
        raise NotAllowed("logs of 0 to 7 letters can be tried")
    log = dearer_log_or_none(first, second, most)
    if log is None:
        raise Missing("no log of so few letters is dearer")
    return log


def never_dearer_union(first, second):
    """Tell whether a union is never dearer than another one."""
    check_same_letters(first[0], second[0])
    papers = [made_cells(first, member) for member in second]
    if all([judge_cells(first, member, paper) for member, paper in zip(second, papers)]):
        return True
    if dearer_log_or_none(first, second, MAX_LETTERS_TRIED) is None:
        raise TooLarge("neither is told")
    return False


def least_part(union):
    """Return the least part of a union."""
    parts = [part for size in range(1, len(union) + 1) for part in combinations(range(len(union)), size)]
    at = 0
    # The whole comes last: what is made for each of its members shows that it is never dearer than itself.
    while not never_dearer_union(tuple([union[member] for member in parts[at]]), union):
        at += 1
    return parts[at]
