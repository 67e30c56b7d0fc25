"""The game of one who calls letters and one who walks: worths, and the papers of both ([8.4], [8.5])."""

from faremachines.errors import NotAllowed
from faremachines.machines import MAX_FARE, MAX_STATES, NONE
from faremachines.purses import ENDLESS, credits_against, credits_with
from faremachines.ratios import is_ratio, is_ratio_within

# A multiple of all integers up to MAX_STATES, by which ratios are put in order.
COMMON = 840


def check_going_on(machine):
    """Raise NotAllowed if a state has no move."""
    if not all([any([len(row) > 0 for row in rows]) for rows in machine[2]]):
        raise NotAllowed("each state has a move")


def check_game(machine, ratio):
    """Raise NotAllowed if a state has no move, or a pair is no ratio that a paper can be asked for."""
    check_going_on(machine)
    if not is_ratio_within(ratio, MAX_FARE) or ratio[1] > MAX_STATES:
        raise NotAllowed("a ratio is in lowest terms, from 0 to 99, its second integer at most 8")


def steps_by_letter(machine, ratio, sign):
    """Return a list with a list for each state, of lists of steps, one for each letter by which there is a move.

    A step is the state behind, and by how much the fare is more than the ratio, times its second integer and the sign.
    """
    p, q = ratio
    groups = []
    for rows in machine[2]:
        groups.append([[(after, sign * (q * fare - p)) for after, fare in row] for row in rows if row])
    return groups


def credits_of_walker(machine, ratio):
    """Return the list of the least integers of right walker's papers, or ENDLESS."""
    return credits_against(steps_by_letter(machine, ratio, 1))


def paper_told(credits_told):
    """Return the paper of some credits, with NONE for ENDLESS."""
    return tuple([NONE if credit == ENDLESS else credit for credit in credits_told])


def ratios_in_order(most):
    """Return the list of the ratios from 0 to 99 whose second integers are at most an integer, in order."""
    found = []
    for q in range(1, most + 1):
        found.extend([(p * (COMMON // q), (p, q)) for p in range(MAX_FARE * q + 1) if is_ratio((p, q))])
    return [ratio for _, ratio in sorted(found)]


def worths(machine):
    """Return the tuple of the worths of the states."""
    check_going_on(machine)
    # The mean that both make sure of is that of a round, of no more turns than there are states.
    ratios = ratios_in_order(len(machine[1]))
    known = {}
    found = []
    for state in range(len(machine[1])):
        low = 0
        high = len(ratios) - 1
        while low < high:
            middle = (low + high) // 2
            if middle not in known:
                known[middle] = credits_of_walker(machine, ratios[middle])
            if known[middle][state] == ENDLESS:
                low = middle + 1
            else:
                high = middle
        found.append(ratios[low])
    return tuple(found)


def walker_paper(machine, ratio):
    """Return a right walker's paper with an integer for as many states as possible."""
    check_game(machine, ratio)
    return paper_told(credits_of_walker(machine, ratio))


def caller_paper(machine, ratio):
    """Return a right caller's paper with an integer for as many states as possible."""
    check_game(machine, ratio)
    return paper_told(credits_with(steps_by_letter(machine, ratio, -1)))


def is_paper_form(machine, paper):
    """Tell whether there is an integer from 0 on, or NONE, for each state."""
    return len(paper) == len(machine[1]) and min(paper) >= NONE


def can_pay(paper, state, step):
    """Tell whether a step leads to a state with an integer that is at most what is left of the one of a state."""
    return paper[step[0]] != NONE and paper[step[0]] <= paper[state] - step[1]


def is_walker_paper(machine, ratio, paper):
    """Tell whether a tuple of integers is a right walker's paper for a ratio."""
    check_game(machine, ratio)
    if not is_paper_form(machine, paper):
        return False
    for state, lists in enumerate(steps_by_letter(machine, ratio, 1)):
        for steps in lists:
            if paper[state] != NONE and not any([can_pay(paper, state, step) for step in steps]):
                return False
    return True


def is_caller_paper(machine, ratio, paper):
    """Tell whether a tuple of integers is a right caller's paper for a ratio."""
    check_game(machine, ratio)
    if not is_paper_form(machine, paper):
        return False
    for state, lists in enumerate(steps_by_letter(machine, ratio, -1)):
        safe = [steps for steps in lists if all([can_pay(paper, state, step) for step in steps])]
        if paper[state] != NONE and not safe:
            return False
    return True
