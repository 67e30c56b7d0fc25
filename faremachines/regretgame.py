"""The game with memory: positions, the walker's papers, and the least regret with a cap ([4.5] to [4.9])."""

from faremachines.errors import BadPaper, Missing, NotAllowed, TooLarge
from faremachines.machines import NONE, fares_ahead, least_of, move_fare, row_by
from faremachines.walkers import MAX_SPOTS, alive_states

MAX_CAP = 60
MAX_REGRET = 60
MAX_POSITIONS = 3000


def first_positions(machine):
    """Return the ascending list of the first positions."""
    alive = alive_states(machine)
    begun = [(state, fare) for state, fare in enumerate(machine[1]) if fare != NONE]
    return [(own, tuple([(state, paid - fare) for state, fare in begun if state in alive])) for own, paid in begun]


def row_behind(machine, alive, row, letter):
    """Return the row to which a letter leads, as if the walker paid nothing for it."""
    gaps = {}
    for state, gap in row:
        for after, fare in row_by(machine, state, letter):
            if after in alive:
                gaps[after] = max(gap - fare, gaps.get(after, gap - fare))
    return tuple([(state, gaps[state]) for state in sorted(gaps)])


def row_paid(row, paid):
    """Return a row when the walker has paid a fare more."""
    return tuple([(state, gap + paid) for state, gap in row])


def next_position(machine, position, letter, state):
    """Return the position that comes by a letter and a move of the walker to a state."""
    paid = move_fare(machine, position[0], letter, state) if letter in machine[0] else NONE
    if paid == NONE:
        raise NotAllowed("there is no such move")
    return state, row_paid(row_behind(machine, alive_states(machine), position[1], letter), paid)


def has_won(machine, r, position):
    """Tell whether the other side has won at a position, when the log ends there."""
    own = machine[3][position[0]]
    ends = [(state, gap) for state, gap in position[1] if machine[3][state] != NONE]
    return any([own == NONE or gap + own - machine[3][state] > r for state, gap in ends])


def covers(position, other):
    """Tell whether a position covers another one."""
    gaps = dict(position[1])
    return position[0] == other[0] and all([state in gaps and gaps[state] >= gap for state, gap in other[1]])


def covering(positions, other):
    """Return the index of the first one of some positions that covers another one, or NONE."""
    return least_of([at for at, position in enumerate(positions) if covers(position, other)])


def is_position(machine, alive, position):
    """Tell whether an integer and a tuple of pairs of integers are a position."""
    states = [state for state, _ in position[1]]
    if not 0 <= position[0] < len(machine[1]) or states != sorted(set(states)):
        return False
    return all([state in alive for state in states])


def check_numbers(r, cap):
    """Raise NotAllowed if a regret or a cap is out of range."""
    if not 0 <= r <= MAX_REGRET or not 0 <= cap <= MAX_CAP:
        raise NotAllowed("a regret and a cap are from 0 to 60")


def least_rests(machine):
    """Return the tuple of the least fare from each state to an end, by any log, or NONE."""
    rests = machine[3]
    # A log with more letters than there are states leads by some state twice, and costs no less.
    for _ in range(len(rests)):
        rows = [rests] + [fares_ahead(machine, rests, letter) for letter in machine[0]]
        rests = tuple([least_of([row[at] for row in rows if row[at] != NONE]) for at in range(len(rests))])
    return rests


def lifted(position, cap):
    """Return a position with each gap below minus the cap lifted to it."""
    return position[0], tuple([(state, max(gap, -cap)) for state, gap in position[1]])


def turns_from(machine, alive, position):
    """Return the list of the turns at a position, one for each letter.

    A turn tells whether the row behind is not empty, and the list of the positions that can come.
    """
    turns = []
    for letter in machine[0]:
        row = row_behind(machine, alive, position[1], letter)
        moves = row_by(machine, position[0], letter)
        turns.append((len(row) > 0, [(state, row_paid(row, paid)) for state, paid in moves]))
    return turns


def least_unwon(machine, position):
    """Return the least integer from 0 on for which the other side has not won at a position, or None."""
    own = machine[3][position[0]]
    ends = [(state, gap) for state, gap in position[1] if machine[3][state] != NONE]
    if ends and own == NONE:
        return None
    return max([0] + [gap + own - machine[3][state] for state, gap in ends])


def bound_at(machine, rests, position):
    """Return the least integer for which neither the other side has won at a position, nor it is lost.

    Return None if there is none. The rests are the least fares to an end.
    """
    least = least_unwon(machine, position)
    return None if least is None else max([least] + [gap - rests[state] for state, gap in position[1]])


class Capped:
    """The game of a machine with a cap; what has been found of positions is kept, as it is the same for each r."""

    def __init__(self, machine, cap):
        """Begin the game of a machine with a cap."""
        self._machine = machine
        self._cap = cap
        self._alive = alive_states(machine)
        self._rests = least_rests(machine)
        self._bounds = {}
        self._turns = {}

    def firsts(self):
        """Return the list of the first positions."""
        return [lifted(position, self._cap) for position in first_positions(self._machine)]

    def is_out(self, position, r):
        """Tell whether a position is left out, as the other side has won there, or it is lost."""
        if position not in self._bounds:
            self._bounds[position] = bound_at(self._machine, self._rests, position)
        bound = self._bounds[position]
        return bound is None or bound > r

    def turns_at(self, position):
        """Return the list of the turns at a position."""
        if position not in self._turns:
            turns = turns_from(self._machine, self._alive, position)
            lifts = [(going, [lifted(after, self._cap) for after in afters]) for going, afters in turns]
            self._turns[position] = lifts
        return self._turns[position]

    def positions_up(self, r):
        """Return the list of the positions that come up, None if these are too many."""
        found = [position for position in self.firsts() if not self.is_out(position, r)]
        seen = {position: True for position in found}
        at = 0
        while at < len(found):
            for _, afters in self.turns_at(found[at]):
                for after in afters:
                    if after not in seen and not self.is_out(after, r):
                        found.append(after)
                    seen[after] = True
            if len(found) > MAX_POSITIONS:
                return None
            at += 1
        return found

    def winning(self, r):
        """Return a dict with the positions from which the walker wins, None if too many come up."""
        found = self.positions_up(r)
        if found is None:
            return None
        return staying(found, {position: self.turns_at(position) for position in found})


def staying(found, turns):
    """Return a dict with those of some positions from which the walker can stay among these, by the turns at them."""
    kept = {position: True for position in found}
    left = {}
    ahead = {position: [] for position in found}
    lost = []
    for position in found:
        for at, (going, afters) in enumerate(turns[position]):
            stays = [after for after in afters if after in kept]
            left[(position, at)] = len(stays)
            for after in stays:
                ahead[after].append((position, at))
            if going and not stays:
                lost.append(position)
    while lost:
        position = lost.pop()
        if not kept[position]:
            continue
        kept[position] = False
        for before, at in ahead[position]:
            left[(before, at)] -= 1
            # A position with an empty row is never lost, so that the row behind this letter is not empty.
            if left[(before, at)] == 0:
                lost.append(before)
    return {position: True for position in found if kept[position]}


def answer_by(turn, won, chosen):
    """Return the walker's position behind a turn, one that is covered by a chosen one if it can be."""
    afters = [after for after in turn[1] if after in won]
    known = [after for after in afters if after in chosen]
    # Most often the position itself is there, and is found at once.
    covered = known if known else [after for after in afters if covering(list(chosen), after) != NONE]
    return (covered + afters)[0]


def answers_at(turns, won, chosen):
    """Return the tuple of the answers at a position; the positions that come are put into the dict of chosen ones."""
    answers = []
    for turn in turns:
        if not turn[0]:
            answers.append(NONE)
            continue
        after = answer_by(turn, won, chosen)
        answers.append(after[0])
        if after not in chosen and covering(list(chosen), after) == NONE:
            chosen[after] = True
    return tuple(answers)


def walker_paper(machine, r, cap):
    """Return a right walker's paper."""
    check_numbers(r, cap)
    game = Capped(machine, cap)
    won = game.winning(r)
    if won is None:
        raise TooLarge("more than 3000 positions come up")
    begun = [position for position in game.firsts() if position in won]
    if not begun:
        raise Missing("the walker does not win with this cap")
    chosen = {begun[0]: True}
    paper = []
    while len(paper) < len(chosen):
        # What has been chosen since comes behind those that were there.
        for position in list(chosen)[len(paper):]:
            paper.append((position, answers_at(game.turns_at(position), won, chosen)))
    return tuple(sorted(paper))


def is_answered(machine, alive, positions, position, answers):
    """Tell whether the answers at a position lead to positions that are covered by some."""
    if len(answers) != len(machine[0]):
        return False
    for letter, answer in zip(machine[0], answers):
        if answer != NONE and not 0 <= answer < len(machine[1]):
            return False
        row = row_behind(machine, alive, position[1], letter)
        if not row:
            continue
        paid = move_fare(machine, position[0], letter, answer)
        if paid == NONE or covering(positions, (answer, row_paid(row, paid))) == NONE:
            return False
    return True


def judge_walker(machine, r, paper):
    """Tell whether a tuple of pairs of a position and answers is a right walker's paper."""
    alive = alive_states(machine)
    positions = [position for position, _ in paper]
    if not all([is_position(machine, alive, position) for position in positions]):
        return False
    if positions != sorted(set(positions)):
        return False
    if not any([covering(positions, position) != NONE for position in first_positions(machine)]):
        return False
    if any([has_won(machine, r, position) for position in positions]):
        return False
    return all([is_answered(machine, alive, positions, position, answers) for position, answers in paper])


def is_losing(game, r):
    """Tell whether the walker does not win a game for r, and not too many positions come up."""
    won = game.winning(r)
    return won is not None and not any([position in won for position in game.firsts()])


def least_regret(machine, cap):
    """Return the least regret with a cap."""
    check_numbers(0, cap)
    game = Capped(machine, cap)
    low = 0
    high = 0
    # With a greater regret no fewer positions come up, and the walker does not win less.
    while is_losing(game, high):
        if high == MAX_REGRET:
            raise Missing("the walker does not win with this cap")
        low = high + 1
        high = min(2 * high + 1, MAX_REGRET)
    while low < high:
        middle = (low + high) // 2
        if is_losing(game, middle):
            low = middle + 1
        else:
            high = middle
    if game.winning(low) is None:
        raise TooLarge("more than 3000 positions come up")
    return low


def walker_of(machine, r, paper):
    """Return a walker with a regret of at most an integer, by a right walker's paper for it."""
    if not judge_walker(machine, r, paper):
        raise BadPaper("this is no right walker's paper")
    if len(paper) > MAX_SPOTS:
        raise TooLarge("the paper has more than 16 positions")
    alive = alive_states(machine)
    firsts = first_positions(machine)
    begins = [row for row in paper if any([covers(row[0], first) for first in firsts])]
    rows = begins[:1] + [row for row in paper if row != begins[0]]
    positions = [position for position, _ in rows]
    spots = []
    for position, answers in rows:
        targets = []
        for letter, answer in zip(machine[0], answers):
            # Behind a letter by which the row is empty no log can be gone.
            if row_behind(machine, alive, position[1], letter):
                targets.append(covering(positions, next_position(machine, position, letter, answer)))
            else:
                targets.append(NONE)
        spots.append((position[0], tuple(targets)))
    return tuple(spots)
