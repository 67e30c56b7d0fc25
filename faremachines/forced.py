"""What is forced within so many letters, and the other side's papers ([4.8], [4.10])."""

from faremachines.errors import Missing, NotAllowed, TooLarge
from faremachines.machines import row_by
from faremachines.regretgame import MAX_POSITIONS, covers, first_positions, has_won, is_position, least_unwon
from faremachines.regretgame import row_behind, row_paid, turns_from
from faremachines.walkers import alive_states

MAX_TURNS = 8
# More than the walker can have paid within so many letters, so that it stands for none.
BEYOND = 10000


def check_turns(turns):
    """Raise NotAllowed if a number of letters is out of range."""
    if not 0 <= turns <= MAX_TURNS:
        raise NotAllowed("it is asked for 0 to 8 letters")


def positions_within(machine, many):
    """Return a list of lists: for each number of letters, the positions that come up first behind as many.

    Return with it a dict with the turns at each position that comes up behind fewer letters than so many.
    """
    alive = alive_states(machine)
    levels = [first_positions(machine)]
    turns = {}
    known = {position: True for position in levels[0]}
    for _ in range(many):
        fresh = []
        for position in levels[-1]:
            turns[position] = turns_from(machine, alive, position)
            for _, afters in turns[position]:
                fresh.extend([after for after in afters if after not in known])
                for after in afters:
                    known[after] = True
            if len(known) > MAX_POSITIONS:
                raise TooLarge("more than 3000 positions come up")
        levels.append(fresh)
    return levels, turns


def forced_now(machine, position):
    """Return the least integer from 0 on for which the other side has not won at a position."""
    least = least_unwon(machine, position)
    return BEYOND if least is None else least


def forced_by(turn, values):
    """Return what is forced when the other side names the letter of a turn, by the values behind it."""
    going, afters = turn
    if not going:
        return 0
    return min([values[after] for after in afters], default=BEYOND)


def values_within(machine, many):
    """Return a list of dicts: what is forced within each number of letters, up to so many, at positions.

    Return with it the dict with the turns at the positions.
    """
    levels, turns = positions_within(machine, many)
    values = [{position: forced_now(machine, position) for level in levels for position in level}]
    for left in range(1, many + 1):
        found = {}
        for level in levels[:many + 1 - left]:
            for position in level:
                ways = [forced_by(turn, values[-1]) for turn in turns[position]]
                found[position] = max([values[0][position]] + ways)
        values.append(found)
    return values, turns


def least_value(machine, values):
    """Return what is forced from the first positions, by the values at them; None if there is none."""
    firsts = first_positions(machine)
    if not firsts:
        raise Missing("no state has a first fare")
    least = min([values[position] for position in firsts])
    return None if least == BEYOND else least


def forced(machine, turns):
    """Return what is forced within so many letters, or None."""
    check_turns(turns)
    return least_value(machine, values_within(machine, turns)[0][-1])


def rank_at(values, r, position, most):
    """Return the least number of letters, up to so many, within which more than an integer is forced."""
    return min([left for left in range(most + 1) if values[left][position] > r])


def forced_paper(machine, r, turns):
    """Return a right paper of the other side."""
    check_turns(turns)
    if r < 0:
        raise NotAllowed("a regret is not below 0")
    values, nexts = values_within(machine, turns)
    least = least_value(machine, values[-1])
    if least is not None and least <= r:
        raise Missing("not more than this is forced")
    # If none is enough, it is forced for each integer that the walker fails.
    r = min(r, BEYOND - 1)
    queue = [(position, turns) for position in first_positions(machine)]
    paper = {}
    while queue:
        position, most = queue.pop()
        if position in paper:
            continue
        rank = rank_at(values, r, position, most)
        paper[position] = (rank, "")
        if rank > 0:
            won = [at for at, turn in enumerate(nexts[position]) if forced_by(turn, values[rank - 1]) > r]
            paper[position] = (rank, machine[0][won[0]])
            queue.extend([(after, rank - 1) for after in nexts[position][won[0]][1]])
    return tuple([position + paper[position] for position in sorted(paper)])


def least_ranks(paper):
    """Return a dict with the least rank at each position of a paper."""
    ranks = {}
    for state, row, rank, _ in paper:
        ranks[(state, row)] = min(rank, ranks.get((state, row), rank))
    return ranks


def covers_some(ranks, position, bound):
    """Tell whether a position covers one with a rank below a bound."""
    # Most often the position itself is there, and is found at once.
    if position in ranks and ranks[position] < bound:
        return True
    return any([ranks[other] < bound and covers(position, other) for other in ranks])


def is_won(machine, alive, r, ranks, told):
    """Tell whether what is told at a position of a paper is right, by the ranks of the paper."""
    state, row, rank, letter = told
    if rank < 0 or not is_position(machine, alive, (state, row)):
        return False
    if letter == "":
        return has_won(machine, r, (state, row))
    if letter not in machine[0]:
        return False
    behind = row_behind(machine, alive, row, letter)
    if not behind:
        return False
    afters = [(after, row_paid(behind, paid)) for after, paid in row_by(machine, state, letter)]
    return all([covers_some(ranks, after, rank) for after in afters])


def judge_forced(machine, r, paper):
    """Tell whether a tuple of tuples of a state, a row, a rank and a text is a right paper of the other side."""
    alive = alive_states(machine)
    ranks = least_ranks(paper)
    if not all([is_won(machine, alive, r, ranks, told) for told in paper]):
        return False
    above = 1 + max([told[2] for told in paper], default=0)
    return all([covers_some(ranks, position, above) for position in first_positions(machine)])
