"""The game with memory: positions, the walker's papers, and the least regret with a cap ([4.5] to [4.9])."""

from faremachines.errors import BadPaper, Missing, NotAllowed, TooLarge
from faremachines.machines import NONE, fares_ahead, least_of, move_fare, row_by
from faremachines.walkers import MAX_SPOTS, alive_states

MAX_CAP = 60
MAX_REGRET = 60
MAX_POSITIONS = 3000


def first_positions(machine):
    """Return the ascending list of the first positions."""
    alive = alive_states(machine)
    begun = [(state, fare) for state, fare in enumerate(machine[1]) if fare != NONE]
    return [(own, tuple([(state, paid - fare) for state, fare in begun if state in alive])) for own, paid in begun]


def row_behind(machine, alive, row, letter):
    """Return the row to which a letter leads, as if the walker paid nothing for it."""
    gaps = {}
    for state, gap in row:
        for after, fare in row_by(machine, state, letter):
            if after in alive:
                gaps[after] = max(gap - fare, gaps.get(after, gap - fare))
    return tuple([(state, gaps[state]) for state in sorted(gaps)])


def row_paid(row, paid):
    """Return a row when the walker has paid a fare more."""
    return tuple([(state, gap + paid) for state, gap in row])


def next_position(machine, position, letter, state):
    """Return the position that comes by a letter and a move of the walker to a state."""
    paid = move_fare(machine, position[0], letter, state) if letter in machine[0] else NONE
    if paid == NONE:
        raise NotAllowed("there is no such move")
    return state, row_paid(row_behind(machine, alive_states(machine), position[1], letter), paid)


def has_won(machine, r, position):
    """Tell whether the other side has won at a position, when the log ends there."""
    own = machine[3][position[0]]
    ends = [(state, gap) for state, gap in position[1] if machine[3][state] != NONE]
    return any([own == NONE or gap + own - machine[3][state] > r for state, gap in ends])


def covers(position, other):
    """Tell whether a position covers another one."""
    gaps = dict(position[1])
    return position[0] == other[0] and all([state in gaps and gaps[state] >= gap for state, gap in other[1]])


def covering(positions, other):
    """Return the index of the first one of some positions that covers another one, or NONE."""
    return least_of([at for at, position in enumerate(positions) if covers(position, other)])


def is_position(machine, alive, position):
    """Tell whether an integer and a tuple of pairs of integers are a position."""
    states = [state for state, _ in position[1]]
    if not 0 <= position[0] < len(machine[1]) or states != sorted(set(states)):
        return False
    return all([state in alive for state in states])


def check_numbers(r, cap):
    """Raise NotAllowed if a regret or a cap is out of range."""
    if not 0 <= r <= MAX_REGRET or not 0 <= cap <= MAX_CAP:
        raise NotAllowed("a regret and a cap are from 0 to 60")


def least_rests(machine):
    """Return the tuple of the least fare from each state to an end, by any log, or NONE."""
    rests = machine[3]
    # A log with more letters than there are states leads by some state twice, and costs no less.
    for _ in range(len(rests)):
        rows = [rests] + [fares_ahead(machine, rests, letter) for letter in machine[0]]
        rests = tuple([least_of([row[at] for row in rows if row[at] != NONE]) for at in range(len(rests))])
    return rests


def lifted(position, cap):
    """Return a position with each gap below minus the cap lifted to it."""
    return position[0], tuple([(state, max(gap, -cap)) for state, gap in position[1]])


def turns_from(machine, alive, position):
    """Return the list of the turns at a position, one for each letter.

    A turn tells whether the row behind is not empty, and the list of the positions that can come.
    """
    turns = []
    for letter in machine[0]:
        row = row_behind(machine, alive, position[1], letter)
        moves = row_by(machine, position[0], letter)
        turns.append((len(row) > 0, [(state, row_paid(row, paid)) for state, paid in moves]))
    return turns


def turns_with_cap(machine, alive, position, cap):
    """Return the list of the turns at a position, with a cap."""
    turns = turns_from(machine, alive, position)
    return [(going, [lifted(after, cap) for after in afters]) for going, afters in turns]


def positions_up(machine, r, cap, turns):
    """Return the list of the positions that come up with a cap, None if these are too many.

    The turns at positions are put into a dict, which does not depend on r.
    """
    alive = alive_states(machine)
    rests = least_rests(machine)
    found = []
    seen = {}
    fresh = [lifted(position, cap) for position in first_positions(machine)]
    while fresh:
        position = fresh.pop()
        if position in seen:
            continue
        seen[position] = True
        if has_won(machine, r, position) or any([gap > r + rests[state] for state, gap in position[1]]):
            continue
        if len(found) == MAX_POSITIONS:
            return None
        found.append(position)
        if position not in turns:
            turns[position] = turns_with_cap(machine, alive, position, cap)
        fresh.extend([after for _, afters in turns[position] for after in afters])
    return found


def winning(found, turns):
    """Return a dict with those of some positions from which the walker can stay among these."""
    kept = {position: True for position in found}
    left = {}
    ahead = {position: [] for position in found}
    lost = []
    for position in found:
        for at, (going, afters) in enumerate(turns[position]):
            stays = [after for after in afters if after in kept]
            left[(position, at)] = len(stays)
            for after in stays:
                ahead[after].append((position, at))
            if going and not stays:
                lost.append(position)
    while lost:
        position = lost.pop()
        if not kept[position]:
            continue
        kept[position] = False
        for before, at in ahead[position]:
            left[(before, at)] -= 1
            # A position with an empty row is never lost, so that the row behind this letter is not empty.
            if left[(before, at)] == 0:
                lost.append(before)
    return {position: True for position in found if kept[position]}


def wins(machine, r, cap, turns):
    """Return a dict with the positions from which the walker wins with a cap, None if too many come up."""
    found = positions_up(machine, r, cap, turns)
    return None if found is None else winning(found, turns)


def begun_winning(machine, cap, won):
    """Return the list of the first positions from which the walker wins with a cap."""
    firsts = [lifted(position, cap) for position in first_positions(machine)]
    return [position for position in firsts if position in won]


def answer_by(turn, won, chosen):
    """Return the walker's position behind a turn, one that is covered by a chosen one if it can be."""
    afters = [after for after in turn[1] if after in won]
    known = [after for after in afters if after in chosen]
    # Most often the position itself is there, and is found at once.
    covered = known if known else [after for after in afters if covering(list(chosen), after) != NONE]
    return (covered + afters)[0]


def answers_at(turns, won, chosen):
    """Return the tuple of the answers at a position; the positions that come are put into the dict of chosen ones."""
    answers = []
    for turn in turns:
        if not turn[0]:
            answers.append(NONE)
            continue
        after = answer_by(turn, won, chosen)
        answers.append(after[0])
        if after not in chosen and covering(list(chosen), after) == NONE:
            chosen[after] = True
    return tuple(answers)


def walker_paper(machine, r, cap):
    """Return a right walker's paper."""
    check_numbers(r, cap)
    turns = {}
    won = wins(machine, r, cap, turns)
    if won is None:
        raise TooLarge("more than 3000 positions come up")
    begun = begun_winning(machine, cap, won)
    if not begun:
        raise Missing("the walker does not win with this cap")
    chosen = {begun[0]: True}
    paper = []
    while len(paper) < len(chosen):
        # What has been chosen since comes behind those that were there.
        for position in list(chosen)[len(paper):]:
            paper.append((position, answers_at(turns[position], won, chosen)))
    return tuple(sorted(paper))


def is_answered(machine, alive, positions, position, answers):
    """Tell whether the answers at a position lead to positions that are covered by some."""
    if len(answers) != len(machine[0]):
        return False
    for letter, answer in zip(machine[0], answers):
        if answer != NONE and not 0 <= answer < len(machine[1]):
            return False
        row = row_behind(machine, alive, position[1], letter)
        if not row:
            continue
        paid = move_fare(machine, position[0], letter, answer)
        if paid == NONE or covering(positions, (answer, row_paid(row, paid))) == NONE:
            return False
    return True


def judge_walker(machine, r, paper):
    """Tell whether a tuple of pairs of a position and answers is a right walker's paper."""
    alive = alive_states(machine)
    positions = [position for position, _ in paper]
    if not all([is_position(machine, alive, position) for position in positions]):
        return False
    if positions != sorted(set(positions)):
        return False
    if not any([covering(positions, position) != NONE for position in first_positions(machine)]):
        return False
    if any([has_won(machine, r, position) for position in positions]):
        return False
    return all([is_answered(machine, alive, positions, position, answers) for position, answers in paper])


def is_lost(machine, r, cap, turns):
    """Tell whether the walker does not win with a cap, and that is told."""
    won = wins(machine, r, cap, turns)
    return won is not None and not begun_winning(machine, cap, won)


def least_regret(machine, cap):
    """Return the least regret with a cap."""
    check_numbers(0, cap)
    turns = {}
    low = 0
    high = 0
    # With a greater regret no fewer positions come up, and the walker does not win less.
    while is_lost(machine, high, cap, turns):
        if high == MAX_REGRET:
            raise Missing("the walker does not win with this cap")
        low = high + 1
        high = min(2 * high + 1, MAX_REGRET)
    while low < high:
        middle = (low + high) // 2
        if is_lost(machine, middle, cap, turns):
            low = middle + 1
        else:
            high = middle
    if wins(machine, low, cap, turns) is None:
        raise TooLarge("more than 3000 positions come up")
    return low


def walker_of(machine, r, paper):
    """Return a walker with a regret of at most an integer, by a right walker's paper for it."""
    if not judge_walker(machine, r, paper):
        raise BadPaper("this is no right walker's paper")
    if len(paper) > MAX_SPOTS:
        raise TooLarge("the paper has more than 16 positions")
    alive = alive_states(machine)
    firsts = first_positions(machine)
    begins = [row for row in paper if any([covers(row[0], first) for first in firsts])]
    rows = begins[:1] + [row for row in paper if row != begins[0]]
    positions = [position for position, _ in rows]
    spots = []
    for position, answers in rows:
        targets = []
        for letter, answer in zip(machine[0], answers):
            # Behind a letter by which the row is empty no log can be gone.
            if row_behind(machine, alive, position[1], letter):
                targets.append(covering(positions, next_position(machine, position, letter, answer)))
            else:
                targets.append(NONE)
        spots.append((position[0], tuple(targets)))
    return tuple(spots)
