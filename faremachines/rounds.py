"""Useful states, rounds that drift apart or are alike, and the papers of both ([5.3], [5.4])."""

from faremachines.machines import NONE, fare_along, turned
from faremachines.words import is_log


def states_met(machine):
    """Return the list of the states to which some log leads from a first fare."""
    met = [state for state, fare in enumerate(machine[1]) if fare != NONE]
    at = 0
    while at < len(met):
        state = met[at]
        for row in machine[2][state]:
            met.extend([after for after, _ in row if after not in met])
        at += 1
    return met


def useful(machine):
    """Return the ascending list of the useful states."""
    met = states_met(machine)
    ending = states_met(turned(machine))
    return [state for state in range(len(machine[1])) if state in met and state in ending]


def state_steps(machine, good):
    """Return a dict with the steps from each good state to good ones: pairs of a letter and a state."""
    steps = {}
    for state in good:
        rows = list(zip(machine[0], machine[2][state]))
        steps[state] = [(letter, after) for letter, row in rows for after, _ in row if after in good]
    return steps


def pair_steps(machine, good, pair):
    """Return the steps from a pair of states to pairs of good ones.

    A step is a letter, the pair to which it leads, and the fare of the first state's move less that
    of the second one's.
    """
    steps = []
    for letter, ones, others in zip(machine[0], machine[2][pair[0]], machine[2][pair[1]]):
        for p, f in ones:
            for q, g in others:
                if p in good and q in good:
                    steps.append((letter, (p, q), f - g))
    return steps


def steps_together(machine):
    """Return a dict with the steps from each pair of useful states that are together."""
    good = useful(machine)
    begun = [state for state in good if machine[1][state] != NONE]
    queue = [(p, q) for p in begun for q in begun]
    steps = {}
    while queue:
        pair = queue.pop()
        if pair not in steps:
            steps[pair] = pair_steps(machine, good, pair)
            queue.extend([step[1] for step in steps[pair]])
    return steps


def routes_from(starts, steps):
    """Return a dict with the shortest route to each place that is reached from the starts, the nearest first.

    Places are states, or tuples of them. A route is the place with which it starts, and the tuple of
    its steps; a step has the letter and the place to which it leads ahead of all else.
    """
    routes = {}
    for start in starts:
        routes[start] = (start, ())
    queue = list(starts)
    at = 0
    while at < len(queue):
        place = queue[at]
        start, taken = routes[place]
        for step in steps[place]:
            if step[1] not in routes:
                routes[step[1]] = (start, taken + (step,))
                queue.append(step[1])
        at += 1
    return routes


def drift_of(taken):
    """Return the sum of the fares of the first state's moves, less that of the second one's."""
    return sum([step[2] for step in taken])


def roots_of(routes):
    """Return a dict with the least pair that leads to each pair and back."""
    pairs = sorted(routes)
    roots = {}
    for pair in pairs:
        # The pair leads to itself by no steps, so that there is always one.
        roots[pair] = min([root for root in pairs if pair in routes[root] and root in routes[pair]])
    return roots


def find_drift(steps, routes, roots):
    """Return a pair and the steps that lead it back to itself with a drift, or None."""
    for pair in sorted(steps):
        root = roots[pair]
        ahead = routes[root][pair][1]
        for step in steps[pair]:
            after = step[1]
            if roots[after] != root:
                continue
            # If both lead back without a drift, the step fits with the heights of its two ends.
            back = routes[after][root][1]
            for turn in (ahead + (step,) + back, routes[root][after][1] + back):
                if drift_of(turn) != 0:
                    return root, turn
    return None


def log_along(taken):
    """Return the log of some steps."""
    return tuple([step[0] for step in taken])


def row_along(start, taken, side):
    """Return the row of states of one side of a pair along some steps."""
    return tuple([start[side]] + [step[1][side] for step in taken])


def drift_paper(machine, steps, root, turn):
    """Return the paper of drift of a pair, and of steps that lead it back to itself with a drift."""
    starts = [pair for pair in sorted(steps) if machine[1][pair[0]] != NONE and machine[1][pair[1]] != NONE]
    start, taken = routes_from(starts, steps)[root]
    ahead = (row_along(start, taken, 0), row_along(start, taken, 1))
    ways = ahead + (row_along(root, turn, 0), row_along(root, turn, 1))
    return log_along(taken), log_along(turn), ways


def rounds(machine):
    """Return `alike` or `drift`, and a right paper for it."""
    steps = steps_together(machine)
    routes = {pair: routes_from([pair], steps) for pair in sorted(steps)}
    roots = roots_of(routes)
    found = find_drift(steps, routes, roots)
    if found is not None:
        root, turn = found
        return "drift", drift_paper(machine, steps, root, turn)
    paper = []
    for pair in sorted(steps):
        # A step that leads to a pair from which none leads back reaches fewer pairs: a lesser zone.
        height = drift_of(routes[roots[pair]][pair][1])
        paper.append((pair[0], pair[1], len(routes[pair]), height))
    return "alike", tuple(paper)


def is_alike(machine, paper):
    """Tell whether a tuple of tuples of four integers is a right paper of alike rounds."""
    steps = steps_together(machine)
    if [(p, q) for p, q, zone, height in paper] != sorted(steps):
        return False
    marks = {(p, q): (zone, height) for p, q, zone, height in paper}
    for pair in steps:
        zone, height = marks[pair]
        for _, after, more in steps[pair]:
            if marks[after][0] > zone:
                return False
            if marks[after][0] == zone and marks[after][1] != height + more:
                return False
    return True


def is_begun(machine, log, row):
    """Tell whether a row of states is one along a log, from a state with a first fare."""
    return fare_along(machine, log, row) != NONE and machine[1][row[0]] != NONE


def is_back(machine, log, state, row):
    """Tell whether a row of states is one along a log, from a state back to it."""
    return fare_along(machine, log, row) != NONE and row[0] == state and row[-1] == state


def is_drift(machine, paper):
    """Tell whether two logs and four rows of states are a right paper of drift."""
    ahead, turn, ways = paper
    if not is_log(machine[0], ahead) or not is_log(machine[0], turn) or turn == ():
        return False
    good = useful(machine)
    if not all([state in good for row in ways for state in row]):
        return False
    begun = ways[:2]
    backs = ways[2:]
    if not all([is_begun(machine, ahead, row) for row in begun]):
        return False
    if not all([is_back(machine, turn, one[-1], row) for one, row in zip(begun, backs)]):
        return False
    return fare_along(machine, turn, backs[0]) != fare_along(machine, turn, backs[1])
