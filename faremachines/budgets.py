"""Budgets: the needs of a walker with a purse, and the caller's papers that it is broke ([8.6], [8.7])."""

from faremachines.errors import Missing, NotAllowed
from faremachines.games import check_going_on, credits_of_walker, paper_told
from faremachines.machines import MAX_FARE, NONE, row_by

MAX_CREDIT = 2000


def check_income(machine, income):
    """Raise NotAllowed if a state has no move, or an integer is no income."""
    check_going_on(machine)
    if not 0 <= income <= MAX_FARE:
        raise NotAllowed("an income is from 0 to 99")


def needs(machine, income):
    """Return the tuple of the needs of the states, or NONE."""
    check_income(machine, income)
    return paper_told(credits_of_walker(machine, (income, 1)))


def called_steps(machine, income):
    """Return a list with a list for each state, of pairs of a letter by which there is a move, and its steps.

    A step is the state behind, and what the purse loses.
    """
    called = []
    for rows in machine[2]:
        lists = [[(after, fare - income) for after, fare in row] for row in rows]
        called.append([(letter, steps) for letter, steps in zip(machine[0], lists) if steps])
    return called


def best_call(calls, most):
    """Return the greatest credit with which the walker is broke if a letter is called, and this letter.

    The calls are the pairs of a letter and its steps, and of the states behind the greatest such credits are told.
    """
    losses = [min([most[after] + lost for after, lost in steps]) for _, steps in calls]
    greatest = max(losses)
    return greatest, calls[losses.index(greatest)][0]


def credits_up(called, state, credit):
    """Return a list with a list for each state, of triples of a credit, a rank and a letter, both ascending.

    The walker is broke within as many turns as the rank tells; the list of the state ends with the credit.
    """
    most = [NONE for calls in called]
    found = [[] for calls in called]
    rank = 0
    while most[state] < credit:
        rank += 1
        bests = [best_call(calls, most) for calls in called]
        for place, (greatest, letter) in enumerate(bests):
            if greatest > most[place]:
                most[place] = greatest
                # With less credit the walker is broke, too.
                told = min(greatest, credit) if place == state else greatest
                found[place].append((told, rank, letter))
    return found


def first_with(triples, credit):
    """Return the index of the first one of ascending triples that has at least a credit."""
    low = 0
    high = len(triples)
    while low < high:
        middle = (low + high) // 2
        if triples[middle][0] < credit:
            low = middle + 1
        else:
            high = middle
    return low


def broke_paper(machine, income, state, credit):
    """Return a right broke paper with a tuple of a state and a credit."""
    check_income(machine, income)
    if not 0 <= state < len(machine[1]) or not 0 <= credit <= MAX_CREDIT:
        raise NotAllowed("a paper is for a state, and a credit from 0 to 2000")
    need = needs(machine, income)[state]
    if need != NONE and credit >= need:
        raise Missing("the walker is never broke from there")
    found = credits_up(called_steps(machine, income), state, credit)
    queue = [(state, len(found[state]) - 1)]
    paper = {}
    while queue:
        place, at = queue.pop()
        told, rank, letter = found[place][at]
        if (place, told) in paper:
            continue
        paper[(place, told)] = (rank, letter)
        for after, fare in row_by(machine, place, letter):
            left = told + income - fare
            if left >= 0:
                queue.append((after, first_with(found[after], left)))
    return tuple([pair + paper[pair] for pair in sorted(paper)])


def is_told_well(machine, told):
    """Tell whether a tuple has a state, a credit, a rank, and a letter by which there is a move from the state."""
    state, credit, rank, letter = told
    if not 0 <= state < len(machine[1]) or credit < 0 or rank < 0 or letter not in machine[0]:
        return False
    return len(row_by(machine, state, letter)) > 0


def ranks_above(machine, paper):
    """Return a list with a list for each state, of pairs of a credit and of the least rank with at least as much.

    They stand in the order of the credits.
    """
    found = [[] for fare in machine[1]]
    for told in sorted(paper, reverse=True):
        ranks = found[told[0]]
        least = min(told[2], ranks[-1][1]) if ranks else told[2]
        ranks.append((told[1], least))
    return [list(reversed(pairs)) for pairs in found]


def is_broke_paper(machine, income, paper):
    """Tell whether a tuple of tuples of a state, a credit, a rank and a letter is a right broke paper."""
    check_income(machine, income)
    if not all([is_told_well(machine, told) for told in paper]):
        return False
    if len(set([(told[0], told[1]) for told in paper])) < len(paper):
        return False
    ranks = ranks_above(machine, paper)
    for state, credit, rank, letter in paper:
        for after, fare in row_by(machine, state, letter):
            left = credit + income - fare
            at = first_with(ranks[after], left)
            if left >= 0 and (at == len(ranks[after]) or ranks[after][at][1] >= rank):
                return False
    return True
