"""Which single machine is dearer: the first differing log, and three papers ([5.6], [5.7])."""

from faremachines.errors import TooLarge
from faremachines.machines import NONE, check_same_letters
from faremachines.rounds import log_along, routes_from
from faremachines.singles import along, start_of, useful_of
from faremachines.walkers import dearest_walks
from faremachines.words import MAX_LOG, is_log

MAX_PAIRS = 400
MAX_TIMES = 10000000000


def check_pairs(first, second):
    """Raise NotAllowed if two single machines have other letters, TooLarge if they have too many pairs of states."""
    check_same_letters(first, second)
    if len(first[2]) * len(second[2]) > MAX_PAIRS:
        raise TooLarge("there are more than 400 pairs of states")


def useful_row(single, good, state):
    """Return the list of the state and the fare behind a state, for each letter; NONE twice if it is not good."""
    if state == NONE:
        return [(NONE, NONE) for _ in single[0]]
    return [pair if pair[0] in good else (NONE, NONE) for pair in single[2][state]]


def steps_from_pair(first, second, goods, pair):
    """Return the list of the steps from a pair of states of both machines, one for each letter.

    A step is the letter, the pair to which it leads, with NONE for a state that is not useful, and the
    fare of the first move less that of the second one.
    """
    ones = useful_row(first, goods[0], pair[0])
    others = useful_row(second, goods[1], pair[1])
    return [(letter, (s, t), f - g) for letter, (s, f), (t, g) in zip(first[0], ones, others)]


def goods_of(first, second):
    """Return the pair of the lists of the useful states of both machines."""
    return useful_of(first), useful_of(second)


def first_pair(goods):
    """Return the pair of the states in which logs begin, with NONE for one that is not useful."""
    return tuple([0 if 0 in good else NONE for good in goods])


def last_of(single, state):
    """Return the last fare of a state, NONE for no state, too."""
    return NONE if state == NONE else single[3][state]


def is_other(first, second, pair, more):
    """Tell whether a log that leads to a pair of states, and costs so much more, has another fare."""
    one = last_of(first, pair[0])
    other = last_of(second, pair[1])
    if NONE in (one, other):
        return one != other
    return more + one - other != 0


def differing_log(first, second):
    """Return the first differing log, or None."""
    goods = goods_of(first, second)
    start = first_pair(goods)
    queue = [(start, first[1] - second[1], ())]
    mores = {start: [first[1] - second[1]]}
    at = 0
    while at < len(queue):
        pair, more, log = queue[at]
        if is_other(first, second, pair, more):
            return log
        for letter, after, step in steps_from_pair(first, second, goods, pair):
            known = mores.setdefault(after, [])
            # If a log differs that goes on from a third difference, it differs from one of two others, too.
            if more + step not in known and len(known) < 2:
                known.append(more + step)
                queue.append((after, more + step, log + (letter,)))
        at += 1
    return None


def same_fares(first, second):
    """Return `same` and the least paper of sameness, or `differ` and the first differing log."""
    check_pairs(first, second)
    log = differing_log(first, second)
    if log is not None:
        return "differ", log
    goods = goods_of(first, second)
    if first_pair(goods) == (NONE, NONE):
        return "same", ()
    mores = {(0, 0): first[1] - second[1]}
    queue = [(0, 0)]
    while queue:
        pair = queue.pop()
        for _, after, step in steps_from_pair(first, second, goods, pair):
            if after != (NONE, NONE) and after not in mores:
                mores[after] = mores[pair] + step
                queue.append(after)
    return "same", tuple([(s, t, mores[(s, t)]) for s, t in sorted(mores)])


def are_useful_pairs(goods, paper):
    """Tell whether triples have different pairs of useful states, ascending."""
    pairs = [(s, t) for s, t, _ in paper]
    return pairs == sorted(set(pairs)) and all([s in goods[0] and t in goods[1] for s, t in pairs])


def is_same_at(first, second, goods, mores, pair):
    """Tell whether a paper of sameness is right at one of its pairs."""
    if is_other(first, second, pair, mores[pair]):
        return False
    for _, after, step in steps_from_pair(first, second, goods, pair):
        if after != (NONE, NONE) and mores.get(after) != mores[pair] + step:
            return False
    return True


def is_same(first, second, paper):
    """Tell whether a tuple of triples of integers is a right paper of sameness."""
    check_same_letters(first, second)
    goods = goods_of(first, second)
    if NONE in first_pair(goods):
        return paper == () and first_pair(goods) == (NONE, NONE)
    if not are_useful_pairs(goods, paper):
        return False
    mores = {(s, t): more for s, t, more in paper}
    if mores.get((0, 0)) != first[1] - second[1]:
        return False
    return all([is_same_at(first, second, goods, mores, pair) for pair in mores])


def steps_of_pairs(first, second):
    """Return the first pair, and a dict with the steps from each pair that is met with a useful second state."""
    goods = goods_of(first, second)
    start = first_pair(goods)
    steps = {}
    queue = [] if start[1] == NONE else [start]
    while queue:
        pair = queue.pop()
        if pair not in steps:
            found = steps_from_pair(first, second, goods, pair)
            steps[pair] = [step for step in found if step[1][1] != NONE]
            queue.extend([step[1] for step in steps[pair]])
    return start, steps


def lost_log(first, second, start, steps):
    """Return a log that can be gone in the second machine, but not in the first one, or None."""
    routes = routes_from([start], steps)
    for pair in routes:
        if last_of(second, pair[1]) != NONE and last_of(first, pair[0]) == NONE:
            return log_along(routes[pair][1])
    return None


def paper_of_log(log):
    """Return the paper against for a log that is dearer, with no times of a round."""
    return log[:MAX_LOG], (), 0, log[MAX_LOG:]


def last_more(first, second, pair):
    """Return the last fare of the first state of a pair less that of the second one; both have one."""
    return first[3][pair[0]] - second[3][pair[1]]


def paper_of_round(first, second, steps, walk):
    """Return the paper against for a walk that leads back to its last pair for more."""
    _, start, taken = walk
    pairs = [start] + [step[1] for step in taken]
    begin = pairs.index(pairs[-1])
    gain = sum([step[2] for step in taken[begin:]])
    routes = routes_from([pairs[-1]], steps)
    ends = [pair for pair in routes if last_of(second, pair[1]) != NONE]
    rest = routes[ends[0]][1]
    more = first[1] - second[1] + sum([step[2] for step in taken[:begin] + rest])
    lacking = -(more + last_more(first, second, ends[0]))
    times = max(0, lacking // gain + 1)
    return log_along(taken[:begin]), log_along(taken[begin:]), times, log_along(rest)


def never_dearer(first, second):
    """Return `never` and a right paper, or `dearer` and a right paper against it."""
    check_pairs(first, second)
    start, steps = steps_of_pairs(first, second)
    if not steps:
        return "never", ()
    lost = lost_log(first, second, start, steps)
    if lost is not None:
        return "dearer", paper_of_log(lost)
    walks, turning = dearest_walks({start: first[1] - second[1]}, steps)
    if turning is not None:
        return "dearer", paper_of_round(first, second, steps, walks[turning])
    for pair in walks:
        if last_of(second, pair[1]) != NONE and walks[pair][0] + last_more(first, second, pair) > 0:
            return "dearer", paper_of_log(log_along(walks[pair][2]))
    return "never", tuple([(s, t, walks[(s, t)][0]) for s, t in sorted(walks)])


def is_never_at(first, second, goods, mores, pair):
    """Tell whether a paper that the first machine is never dearer is right at one of its pairs."""
    if last_of(second, pair[1]) != NONE:
        if last_of(first, pair[0]) == NONE or mores[pair] + last_more(first, second, pair) > 0:
            return False
    for _, after, step in steps_from_pair(first, second, goods, pair):
        if after[1] != NONE and (after not in mores or mores[after] < mores[pair] + step):
            return False
    return True


def is_never(first, second, paper):
    """Tell whether a tuple of triples of integers is a right paper that the first machine is never dearer."""
    check_same_letters(first, second)
    goods = goods_of(first, second)
    if not are_useful_pairs(goods, paper):
        return False
    mores = {(s, t): more for s, t, more in paper}
    if goods[1] and ((0, 0) not in mores or mores[(0, 0)] < first[1] - second[1]):
        return False
    return all([is_never_at(first, second, goods, mores, pair) for pair in mores])


def fare_with_round(single, paper):
    """Return the fare of the log of a paper against, NONE if it cannot be gone; None if its round leads elsewhere."""
    ahead, turn, times, behind = paper
    state, before = along(single, ahead, start_of(single))
    back, paid = along(single, turn, state)
    if back != state:
        return None
    end, rest = along(single, behind, state)
    if last_of(single, end) == NONE:
        return NONE
    return single[1] + before + times * paid + rest + single[3][end]


def is_dearer(first, second, paper):
    """Tell whether three logs and an integer are a right paper that the first machine is dearer."""
    check_same_letters(first, second)
    ahead, turn, times, behind = paper
    if not all([is_log(first[0], log) for log in (ahead, turn, behind)]) or not 0 <= times <= MAX_TIMES:
        return False
    one = fare_with_round(first, paper)
    other = fare_with_round(second, paper)
    if one is None or other is None or other == NONE:
        return False
    return one == NONE or one > other
