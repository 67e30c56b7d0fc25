"""Walkers, their regret, and the papers of it ([4.1] to [4.3])."""

from faremachines.charts import chart_of
from faremachines.errors import Missing, NotAllowed
from faremachines.machines import NONE, fare_along, fare_of, fares_behind, fares_from, move_fare, turned
from faremachines.rounds import log_along, routes_from, state_steps, states_met
from faremachines.words import check_log, is_log

MAX_SPOTS = 16


def alive_states(machine):
    """Return the ascending list of the alive states."""
    return sorted(states_met(turned(machine)))


def is_spot(machine, walker, spot):
    """Tell whether a pair of an integer and a tuple of integers can be a spot of a walker."""
    state, targets = spot
    if not 0 <= state < len(machine[1]) or len(targets) != len(machine[0]):
        return False
    for letter, target in zip(machine[0], targets):
        if target == NONE:
            continue
        if not 0 <= target < len(walker) or move_fare(machine, state, letter, walker[target][0]) == NONE:
            return False
    return True


def check_walker(machine, walker):
    """Raise NotAllowed if a tuple of pairs is not a walker through a machine."""
    if not 1 <= len(walker) <= MAX_SPOTS:
        raise NotAllowed("a walker has 1 to 16 spots")
    if not all([is_spot(machine, walker, spot) for spot in walker]):
        raise NotAllowed("a spot has a state, and for each letter a spot to which a move leads, or NONE")
    if machine[1][walker[0][0]] == NONE:
        raise NotAllowed("the state of spot 0 has a first fare")


def spots_along(machine, walker, start, log):
    """Return the list of the spots from one on along a log, as far as the walker goes."""
    spots = [start]
    for letter in log:
        target = walker[spots[-1]][1][machine[0].index(letter)]
        if target == NONE:
            break
        spots.append(target)
    return spots


def walker_way(machine, walker, log):
    """Return the way of a walker along a log, None if its fare is NONE."""
    check_log(machine[0], log)
    spots = spots_along(machine, walker, 0, log)
    way = tuple([walker[spot][0] for spot in spots])
    if len(spots) <= len(log) or machine[3][way[-1]] == NONE:
        return None
    return way


def walker_fare(machine, walker, log):
    """Return the fare of a walker for a log, or NONE."""
    way = walker_way(machine, walker, log)
    if way is None:
        return NONE
    return machine[1][way[0]] + fare_along(machine, log, way) + machine[3][way[-1]]


def steps_beside(machine, walker, alive, pair):
    """Return the steps from a pair of a spot and a state to pairs of a spot and an alive one.

    A step is a letter, the pair to which it leads, and what the walker pays less the fare of the move.
    """
    spot, state = pair
    own, targets = walker[spot]
    steps = []
    for letter, target, row in zip(machine[0], targets, machine[2][state]):
        if target != NONE:
            paid = move_fare(machine, own, letter, walker[target][0])
            steps.extend([(letter, (target, after), paid - fare) for after, fare in row if after in alive])
    return steps


def first_gaps(machine, walker, alive):
    """Return a dict with the walker's first fare less each state's, for each first pair."""
    own = machine[1][walker[0][0]]
    return {(0, state): own - machine[1][state] for state in alive if machine[1][state] != NONE}


def last_gap(machine, walker, pair):
    """Return the last fare of the spot's state less that of the state of a pair; both have one."""
    return machine[3][walker[pair[0]][0]] - machine[3][pair[1]]


def ending_log(machine, state):
    """Return a log that leads from an alive state to a last fare, as short as there is one."""
    routes = routes_from([state], state_steps(machine, alive_states(machine)))
    ends = [after for after in routes if machine[3][after] != NONE]
    return log_along(routes[ends[0]][1])


def lost_rest(machine, walker, alive, pair):
    """Return a log that leads from the state of a pair to a last fare, but not the walker from its spot.

    Return None if at the pair, and by the next letter, the walker is not lost.
    """
    spot, state = pair
    if machine[3][state] != NONE and machine[3][walker[spot][0]] == NONE:
        return ()
    for letter, target, row in zip(machine[0], walker[spot][1], machine[2][state]):
        ends = [after for after, _ in row if after in alive]
        if target == NONE and ends:
            return (letter,) + ending_log(machine, ends[0])
    return None


def lost_log(machine, walker, alive, routes):
    """Return a log that can be gone, for which the walker has no fare, or None."""
    for pair in routes:
        rest = lost_rest(machine, walker, alive, pair)
        if rest is not None:
            return log_along(routes[pair][1]) + rest
    return None


def is_met(walk, pair):
    """Tell whether a walk leads by a pair."""
    return walk[1] == pair or any([step[1] == pair for step in walk[2]])


def dearest_walks(gaps, steps):
    """Return a dict with the walks to all pairs, and a pair to which longer ones cost yet more, or None.

    A walk is the greatest sum that the walker pays more, the first pair, and the tuple of the steps.
    If there is such a pair, its walk leads by it before, for less, and all its other pairs are different.
    """
    walks = {pair: (gaps[pair], pair, ()) for pair in gaps}
    fresh = list(walks)
    while fresh:
        longer = {}
        for pair in fresh:
            walk = walks[pair]
            for step in steps[pair]:
                known = longer.get(step[1], walks.get(step[1]))
                if known is None or walk[0] + step[2] > known[0]:
                    longer[step[1]] = (walk[0] + step[2], walk[1], walk[2] + (step,))
                    # What is known of a pair is at least what was paid when the walk led by it.
                    if is_met(walk, step[1]):
                        return longer, step[1]
        for pair in longer:
            walks[pair] = longer[pair]
        fresh = list(longer)
    return walks, None


def growing_paper(machine, walk):
    """Return the lower paper of a walk that leads back to its last pair for more."""
    _, start, taken = walk
    pairs = [start] + [step[1] for step in taken]
    begin = pairs.index(pairs[-1])
    last = ending_log(machine, pairs[-1][1])
    return "grows", log_along(taken[:begin]), log_along(taken[begin:]), last


def compared(machine, walker):
    """Return a lower paper that is right for each r, or None, and a dict of the dearest walks."""
    alive = alive_states(machine)
    pairs = [(spot, state) for spot in range(len(walker)) for state in alive]
    steps = {pair: steps_beside(machine, walker, alive, pair) for pair in pairs}
    gaps = first_gaps(machine, walker, alive)
    lost = lost_log(machine, walker, alive, routes_from(sorted(gaps), steps))
    if lost is not None:
        return ("log", lost), {}
    walks, turning = dearest_walks(gaps, steps)
    return (None if turning is None else growing_paper(machine, walks[turning])), walks


def regrets_of(machine, walker, walks):
    """Return the list of pairs of what the walker pays more at the end of a walk, and of its log."""
    ends = [pair for pair in walks if machine[3][pair[1]] != NONE]
    return [(walks[pair][0] + last_gap(machine, walker, pair), log_along(walks[pair][2])) for pair in ends]


def regret(machine, walker):
    """Return the regret of a walker."""
    endless, walks = compared(machine, walker)
    if endless is not None:
        raise Missing("the walker has no regret")
    return max([0] + [more for more, _ in regrets_of(machine, walker, walks)])


def check_regret(r):
    """Raise NotAllowed if an integer is below 0."""
    if r < 0:
        raise NotAllowed("a regret is not below 0")


def upper_paper(machine, walker, r):
    """Return a right upper paper for an integer."""
    check_regret(r)
    endless, walks = compared(machine, walker)
    if endless is not None or not all([more <= r for more, _ in regrets_of(machine, walker, walks)]):
        raise Missing("the regret is not at most this")
    return tuple([(spot, state, walks[(spot, state)][0]) for spot, state in sorted(walks)])


def lower_paper(machine, walker, r):
    """Return a right lower paper for an integer."""
    check_regret(r)
    endless, walks = compared(machine, walker)
    if endless is not None:
        return endless
    logs = [log for more, log in regrets_of(machine, walker, walks) if more > r]
    if not logs:
        raise Missing("the regret is at most this")
    return "log", logs[0]


def is_upper_row(machine, walker, alive, r, numbers, pair):
    """Tell whether an upper paper is right at one of its pairs."""
    if lost_rest(machine, walker, alive, pair) is not None:
        return False
    for _, after, more in steps_beside(machine, walker, alive, pair):
        if after not in numbers or numbers[after] < numbers[pair] + more:
            return False
    return machine[3][pair[1]] == NONE or numbers[pair] + last_gap(machine, walker, pair) <= r


def judge_upper(machine, walker, r, paper):
    """Tell whether a tuple of triples of integers is a right upper paper."""
    check_regret(r)
    alive = alive_states(machine)
    pairs = [(spot, state) for spot, state, _ in paper]
    if pairs != sorted(set(pairs)):
        return False
    if not all([0 <= spot < len(walker) and state in alive for spot, state in pairs]):
        return False
    numbers = {(spot, state): number for spot, state, number in paper}
    gaps = first_gaps(machine, walker, alive)
    if not all([pair in numbers and numbers[pair] >= gaps[pair] for pair in gaps]):
        return False
    return all([is_upper_row(machine, walker, alive, r, numbers, pair) for pair in pairs])


def is_dear_log(machine, walker, r, log):
    """Tell whether a log shows that the regret is not at most an integer."""
    fare = fare_of(machine, log)
    paid = walker_fare(machine, walker, log)
    return fare != NONE and (paid == NONE or paid > fare + r)


def is_growing(machine, walker, first, ring, last):
    """Tell whether three logs show that there is no regret."""
    spots = spots_along(machine, walker, 0, first + ring)
    if ring == () or len(spots) <= len(first + ring) or spots[len(first)] != spots[-1]:
        return False
    if walker_fare(machine, walker, first + last) == NONE:
        return False
    row = [walker[spot][0] for spot in spots[len(first):]]
    paid = fare_along(machine, ring, row)
    chart = chart_of(machine, ring)
    ahead = fares_behind(machine, first)
    behind = fares_from(machine, last)
    back = [chart[state][state] for state in range(len(chart)) if NONE not in (ahead[state], behind[state])]
    return any([fare != NONE and fare < paid for fare in back])


def judge_lower(machine, walker, r, paper):
    """Tell whether a text, and one log or three, are a right lower paper."""
    check_regret(r)
    logs = paper[1:]
    together = [letter for log in logs for letter in log]
    if not is_log(machine[0], together):
        return False
    if paper[0] == "log" and len(logs) == 1:
        return is_dear_log(machine, walker, r, logs[0])
    if paper[0] == "grows" and len(logs) == 3:
        return is_growing(machine, walker, logs[0], logs[1], logs[2])
    return False
