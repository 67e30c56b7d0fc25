"""The growth of ways, growth papers and level papers ([2.3] to [2.5])."""

from faremachines.charts import chart_of
from faremachines.errors import Missing
from faremachines.machines import NONE
from faremachines.rounds import is_back, log_along, pair_steps, routes_from, row_along, state_steps, useful
from faremachines.words import is_log


def doubling_paper(machine):
    """Return a right growth paper of the form doubling, or None."""
    good = useful(machine)
    steps = {(p, q): pair_steps(machine, good, (p, q)) for p in good for q in good}
    routes = {pair: routes_from([pair], steps) for pair in sorted(steps)}
    for state in good:
        start = (state, state)
        for pair in routes[start]:
            # A pair of two states, ahead of which and behind which both rows are together.
            if pair[0] != pair[1] and start in routes[pair]:
                taken = routes[start][pair][1] + routes[pair][start][1]
                return "doubling", state, log_along(taken), row_along(start, taken, 0), row_along(start, taken, 1)
    return None


def ways_between(machine):
    """Return a dict with the routes from each useful state to useful ones."""
    good = useful(machine)
    steps = state_steps(machine, good)
    return {state: routes_from([state], steps) for state in good}


def triple_steps(machine, parts, triple):
    """Return the steps from a triple of states to triples of one state of each of the parts."""
    steps = []
    for at, letter in enumerate(machine[0]):
        ones, twos, threes = [
            [after for after, _ in machine[2][state][at] if after in part] for state, part in zip(triple, parts)
        ]
        steps.extend([(letter, (one, two, three)) for one in ones for two in twos for three in threes])
    return steps


def log_of_step(machine, between, p, q):
    """Return a log with rows of states from p to p, from p to q, and from q to q, or None."""
    if q not in between[p]:
        return None
    # States outside these parts lead to no such rows.
    parts = (
        [state for state in between if state in between[p] and p in between[state]],
        [state for state in between if state in between[p] and q in between[state]],
        [state for state in between if state in between[q] and q in between[state]],
    )
    triples = [(one, two, three) for one in parts[0] for two in parts[1] for three in parts[2]]
    routes = routes_from([(p, p, q)], {triple: triple_steps(machine, parts, triple) for triple in triples})
    if (p, q, q) not in routes:
        return None
    return log_along(routes[(p, q, q)][1])


def logs_of_steps(machine, between):
    """Return a dict with the log of a growth paper of one step, for each pair of states that has one.

    It is called with machines whose growth is not doubling.
    """
    logs = {}
    for p in between:
        for q in between:
            log = log_of_step(machine, between, p, q) if p != q else None
            if log is not None:
                logs[(p, q)] = log
    return logs


def level_of(between, logs, state):
    """Return the number of the steps of the longest growth papers that a state leads to."""
    # No state of a step leads back to the one before, so that there are fewer steps than states.
    return max([1 + level_of(between, logs, q) for p, q in logs if p in between[state]], default=0)


def levels_of(machine, between, logs):
    """Return the least right level paper of a machine whose growth is not doubling."""
    states = range(len(machine[1]))
    return tuple([level_of(between, logs, state) if state in between else 0 for state in states])


def growth_of_ways(machine):
    """Return the growth of ways."""
    if doubling_paper(machine) is not None:
        return ("doubling",)
    between = ways_between(machine)
    most = max(levels_of(machine, between, logs_of_steps(machine, between)))
    return ("power", most) if most > 0 else ("bounded",)


def next_step(between, logs, levels, state):
    """Return the two states of a step to which a state leads, so that the others of its level can follow."""
    fitting = [(p, q) for p, q in logs if p in between[state] and levels[q] == levels[state] - 1]
    return fitting[0]


def steps_down(machine, between, logs):
    """Return the steps of a growth paper, as many as there are in any."""
    levels = levels_of(machine, between, logs)
    state = levels.index(max(levels))
    pairs = []
    while levels[state] > 0:
        pairs.append(next_step(between, logs, levels, state))
        state = pairs[-1][1]
    steps = []
    for at, (p, q) in enumerate(pairs):
        join = log_along(between[q][pairs[at + 1][0]][1]) if at + 1 < len(pairs) else ()
        steps.append((p, q, logs[(p, q)], join))
    return tuple(steps)


def growth_paper(machine):
    """Return a right growth paper for the growth of ways."""
    doubling = doubling_paper(machine)
    if doubling is not None:
        return doubling
    between = ways_between(machine)
    steps = steps_down(machine, between, logs_of_steps(machine, between))
    if len(steps) == 0:
        raise Missing("the growth of ways is bounded")
    return "power", steps


def level_paper(machine):
    """Return a right level paper for the growth of ways."""
    if doubling_paper(machine) is not None:
        raise Missing("the growth of ways is doubling")
    between = ways_between(machine)
    return levels_of(machine, between, logs_of_steps(machine, between))


def is_doubling(machine, state, log, first, second):
    """Tell whether a state, a log and two rows of states make a right paper of the form doubling."""
    # All states of a row from a useful state back to it are useful.
    if state not in useful(machine) or not is_log(machine[0], log):
        return False
    return first != second and is_back(machine, log, state, first) and is_back(machine, log, state, second)


def is_step(machine, good, step):
    """Tell whether two states and two logs are a step of a growth paper, whatever its join leads to."""
    p, q, log, join = step
    if p == q or p not in good or q not in good:
        return False
    if not is_log(machine[0], log) or not is_log(machine[0], join):
        return False
    chart = chart_of(machine, log)
    return NONE not in (chart[p][p], chart[p][q], chart[q][q])


def are_steps(machine, steps):
    """Tell whether a tuple of steps makes a right growth paper."""
    good = useful(machine)
    if len(steps) == 0 or not all([is_step(machine, good, step) for step in steps]):
        return False
    for step, after in zip(steps, steps[1:]):
        if chart_of(machine, step[3])[step[1]][after[0]] == NONE:
            return False
    return steps[-1][3] == ()


def is_growth_paper(machine, paper):
    """Tell whether a text and the parts of [2.4] are a right growth paper."""
    if paper[0] == "doubling" and len(paper) == 5:
        return is_doubling(machine, paper[1], paper[2], paper[3], paper[4])
    if paper[0] == "power" and len(paper) == 2:
        return are_steps(machine, paper[1])
    return False


def is_level_paper(machine, paper):
    """Tell whether a tuple of integers is a right level paper."""
    if len(paper) != len(machine[1]) or min(paper) < 0 or doubling_paper(machine) is not None:
        return False
    between = ways_between(machine)
    for state, steps in state_steps(machine, sorted(between)).items():
        if not all([paper[after] <= paper[state] for _, after in steps]):
            return False
    return all([paper[q] < paper[p] for p, q in logs_of_steps(machine, between)])
