"""The means of endless ways, mean papers, and the mean of an endless log ([8.1] to [8.3])."""

from faremachines.charts import chart_of
from faremachines.errors import Missing, NotAllowed
from faremachines.machines import NONE, fare_along, fares_behind
from faremachines.ratios import is_ratio, ratio_of
from faremachines.rounds import is_back, is_begun, log_along, routes_from, states_met
from faremachines.words import is_log


def costly_steps(machine, sign):
    """Return a dict with the steps from each state that is met: a letter, a state, and the fare, times the sign."""
    steps = {}
    for state in states_met(machine):
        rows = list(zip(machine[0], machine[2][state]))
        steps[state] = [(letter, after, sign * fare) for letter, row in rows for after, fare in row]
    return steps


def longer_walks(steps, walks):
    """Return a dict with the cheapest walks that have one step more than those that are told.

    A walk is told by the state where it ends, as the sum of what its steps cost, and the tuple of these.
    """
    found = {}
    for state in walks:
        total, taken = walks[state]
        for step in steps[state]:
            if step[1] not in found or total + step[2] < found[step[1]][0]:
                found[step[1]] = (total + step[2], taken + (step,))
    return found


def cheapest_round(steps):
    """Return what the round with the least mean costs, its state and its steps, or None if there is no round."""
    best = None
    for state in steps:
        walks = {state: (0, ())}
        # A longer round has a part that is one, too, and no dearer in the mean.
        for count in range(1, len(steps) + 1):
            walks = longer_walks(steps, walks)
            if state in walks:
                total, taken = walks[state]
                if best is None or total * len(best[2]) < best[0] * count:
                    best = (total, state, taken)
    return best


def sign_of(greatest):
    """Return the sign by which fares are told so that the mean that is looked for is the least one."""
    return -1 if greatest else 1


def best_round(machine, greatest):
    """Return what the round with the least or the greatest mean costs, its state and its steps."""
    sign = sign_of(greatest)
    best = cheapest_round(costly_steps(machine, sign))
    if best is None:
        raise Missing("there is no endless way")
    return sign * best[0], best[1], best[2]


def mean_by(machine, greatest):
    """Return the least or the greatest mean."""
    total, _, taken = best_round(machine, greatest)
    return ratio_of(total, len(taken))


def least_mean(machine):
    """Return the least mean."""
    return mean_by(machine, False)


def greatest_mean(machine):
    """Return the greatest mean."""
    return mean_by(machine, True)


def begun_states(machine):
    """Return the list of the states with a first fare."""
    return [state for state, fare in enumerate(machine[1]) if fare != NONE]


def heights_by(machine, greatest, ratio):
    """Return the heights of a mean paper for the least or the greatest mean, which is the ratio."""
    p, q = ratio
    sign = sign_of(greatest)
    steps = costly_steps(machine, sign)
    sums = {state: 0 for state in begun_states(machine)}
    # No round costs less than nothing by these sums, so that the cheapest walks lead by no state twice.
    for _ in steps:
        for state in list(sums):
            for _, after, cost in steps[state]:
                more = sums[state] + q * cost - sign * p
                sums[after] = min(sums.get(after, more), more)
    return tuple([sign * sums[state] if state in sums else None for state in range(len(machine[1]))])


def states_along(start, taken):
    """Return the row of states along some steps."""
    return tuple([start] + [step[1] for step in taken])


def mean_paper(machine, greatest):
    """Return a right mean paper for the greatest mean, or for the least one."""
    total, state, taken = best_round(machine, greatest)
    ratio = ratio_of(total, len(taken))
    start, ahead = routes_from(begun_states(machine), costly_steps(machine, 1))[state]
    ways = (states_along(start, ahead), states_along(state, taken))
    return ratio, log_along(ahead), log_along(taken), ways, heights_by(machine, greatest, ratio)


def are_heights(machine, greatest, ratio, heights):
    """Tell whether integers and Nones are right heights for the least or the greatest mean."""
    if len(heights) != len(machine[1]):
        return False
    if not all([heights[state] is not None for state in begun_states(machine)]):
        return False
    p, q = ratio
    sign = sign_of(greatest)
    for state, rows in enumerate(machine[2]):
        if heights[state] is None:
            continue
        for after, fare in [move for row in rows for move in row]:
            if heights[after] is None or sign * (q * fare - p) < sign * (heights[after] - heights[state]):
                return False
    return True


def is_mean_paper(machine, greatest, paper):
    """Tell whether a ratio, two logs, two rows of states, and integers and Nones are a right mean paper."""
    ratio, ahead, ring, ways, heights = paper
    if not is_ratio(ratio) or not is_log(machine[0], ahead) or not is_log(machine[0], ring) or ring == ():
        return False
    if not is_begun(machine, ahead, ways[0]) or not is_back(machine, ring, ways[0][-1], ways[1]):
        return False
    if ratio[1] * fare_along(machine, ring, ways[1]) != ratio[0] * len(ring):
        return False
    return are_heights(machine, greatest, ratio, heights)


def steps_of_chart(chart, starts):
    """Return a dict with the steps of a chart from each state that is met from some, each by one whole log."""
    steps = {}
    fresh = list(starts)
    while fresh:
        state = fresh.pop()
        if state not in steps:
            steps[state] = [((), after, fare) for after, fare in enumerate(chart[state]) if fare != NONE]
            fresh.extend([step[1] for step in steps[state]])
    return steps


def mean_of(machine, ahead, ring):
    """Return the mean of the endless log that begins with a log, and goes on with another one again and again."""
    if ring == ():
        raise NotAllowed("what comes again and again is not empty")
    chart = chart_of(machine, ring)
    starts = [state for state, fare in enumerate(fares_behind(machine, ahead)) if fare != NONE]
    best = cheapest_round(steps_of_chart(chart, starts))
    if best is None:
        raise Missing("there is no endless way of this log")
    return ratio_of(best[0], len(best[2]) * len(ring))
