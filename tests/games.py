"""What the points about the game with memory say ([4.5] to [4.10]), as plainly as they say it."""

from tests.samples import NONE, behind, logs_up_to, rows_along, step_fare


def alive_of(machine):
    """Return the list of the alive states, from logs of up to as many letters as there are states."""
    ends = [state for state in range(len(machine[1])) if machine[3][state] != NONE]
    for _ in machine[1]:
        states = range(len(machine[1]))
        ends = [s for s in states if s in ends or any(t in ends for row in machine[2][s] for t, _ in row)]
    return ends


def moves_by(machine, state, letter):
    """Return the row of moves by a letter."""
    return machine[2][state][machine[0].index(letter)]


def firsts_of(machine):
    """Return the list of the first positions."""
    begun = [state for state, fare in enumerate(machine[1]) if fare != NONE]
    alive = [state for state in begun if state in alive_of(machine)]
    return [(own, tuple([(s, machine[1][own] - machine[1][s]) for s in alive])) for own in begun]


def comes(machine, position, letter, after):
    """Return the position that comes by a letter and a move of the walker."""
    paid = step_fare(machine, position[0], letter, after)
    row = []
    for t in alive_of(machine):
        fares = [(gap, step_fare(machine, s, letter, t)) for s, gap in position[1]]
        sums = [gap + paid - fare for gap, fare in fares if fare != NONE]
        row += [(t, max(sums))] if sums else []
    return after, tuple(row)


def goes_on(machine, position, letter):
    """Tell whether the row behind a letter is not empty."""
    return any(after in alive_of(machine) for s, _ in position[1] for after, _ in moves_by(machine, s, letter))


def won(machine, r, position):
    """Tell whether the other side has won for r."""
    own = machine[3][position[0]]
    for state, gap in position[1]:
        if machine[3][state] != NONE and (own == NONE or gap + own - machine[3][state] > r):
            return True
    return False


def is_covered(position, other):
    """Tell whether the first position covers the other one."""
    gaps = dict(position[1])
    return position[0] == other[0] and all(s in gaps and gaps[s] >= gap for s, gap in other[1])


def told_position(machine, position):
    """Tell whether a position has a state, and different alive states, ascending."""
    states = [state for state, _ in position[1]]
    if position[0] not in range(len(machine[1])) or any(state not in alive_of(machine) for state in states):
        return False
    return all(one < other for one, other in zip(states, states[1:]))


def is_walker_paper(machine, r, paper):
    """Tell whether a walker's paper is right."""
    positions = [position for position, _ in paper]
    if list(paper) != sorted(paper) or len(set(positions)) != len(positions):
        return False
    if any(not told_position(machine, position) or won(machine, r, position) for position in positions):
        return False
    if not any(is_covered(position, first) for position in positions for first in firsts_of(machine)):
        return False
    for position, answers in paper:
        if len(answers) != len(machine[0]) or any(answer not in range(-1, len(machine[1])) for answer in answers):
            return False
        for letter, answer in zip(machine[0], answers):
            if goes_on(machine, position, letter):
                if answer == NONE or step_fare(machine, position[0], letter, answer) == NONE:
                    return False
                after = comes(machine, position, letter, answer)
                if not any(is_covered(other, after) for other in positions):
                    return False
    return True


def is_other_paper(machine, r, paper):
    """Tell whether a paper of the other side is right."""
    for first in firsts_of(machine):
        if not any(is_covered(first, told[:2]) for told in paper):
            return False
    for state, row, rank, letter in paper:
        position = (state, row)
        if rank < 0 or not told_position(machine, position):
            return False
        if letter == "":
            if not won(machine, r, position):
                return False
        elif letter not in machine[0] or not goes_on(machine, position, letter):
            return False
        else:
            for after, _ in moves_by(machine, state, letter):
                come = comes(machine, position, letter, after)
                if not any(is_covered(come, told[:2]) and told[2] < rank for told in paper):
                    return False
    return True


def lift(position, cap):
    """Return a position with the gaps below minus the cap lifted."""
    return position[0], tuple([(state, max(gap, -cap)) for state, gap in position[1]])


def rest_of(machine, state):
    """Return the least fare from a state to an end, by logs of up to as many letters as there are states less one."""
    sums = []
    for log in logs_up_to(machine[0], len(machine[1]) - 1):
        for row, total in rows_along(machine, log):
            if row[0] == state and machine[3][row[-1]] != NONE:
                sums.append(total + machine[3][row[-1]])
    return min(sums)


def outcome(machine, r, cap, most=3000):
    """Tell whether the walker wins with a cap, or return `TooLarge`."""
    rests = {state: rest_of(machine, state) for state in alive_of(machine)}

    def left_out(position):
        return won(machine, r, position) or any(gap > r + rests[state] for state, gap in position[1])

    firsts = [lift(position, cap) for position in firsts_of(machine)]
    up = []
    queue = list(firsts)
    while queue:
        position = queue.pop(0)
        if position in up or left_out(position):
            continue
        up.append(position)
        if len(up) > most:
            return "TooLarge"
        for letter in machine[0]:
            queue += [lift(comes(machine, position, letter, t), cap) for t, _ in moves_by(machine, position[0], letter)]
    kept = up

    def stays(position):
        for letter in machine[0]:
            afters = [lift(comes(machine, position, letter, t), cap) for t, _ in moves_by(machine, position[0], letter)]
            if goes_on(machine, position, letter) and not any(after in kept for after in afters):
                return False
        return True

    while True:
        staying = [position for position in kept if stays(position)]
        if len(staying) == len(kept):
            return any(first in kept for first in firsts)
        kept = staying


def value(machine, position, left):
    """Return the least r for which the other side does not win within so many letters, or None."""
    own = machine[3][position[0]]
    worst = 0
    for state, gap in position[1]:
        if machine[3][state] != NONE:
            if own == NONE:
                return None
            worst = max(worst, gap + own - machine[3][state])
    for letter in machine[0]:
        if left > 0 and goes_on(machine, position, letter):
            afters = [comes(machine, position, letter, t) for t, _ in moves_by(machine, position[0], letter)]
            values = [value(machine, after, left - 1) for after in afters]
            values = [number for number in values if number is not None]
            if not values:
                return None
            worst = max(worst, min(values))
    return worst


def positions_within(machine, turns):
    """Return the list of the positions that come up within so many letters, or more than 3000 of them."""
    fresh = firsts_of(machine)
    known = {position: True for position in fresh}
    for _ in range(turns):
        ahead, fresh = fresh, []
        for position in ahead if len(known) <= 3000 else []:
            for letter in machine[0]:
                for after, _ in moves_by(machine, position[0], letter):
                    come = comes(machine, position, letter, after)
                    fresh += [] if come in known else [come]
                    known[come] = True
    return list(known)


def gaps_behind(machine, log, way):
    """Return the row of gaps of a walker that has gone a row of states along a log, from the definition."""
    paid = machine[1][way[0]] + sum([step_fare(machine, way[k], letter, way[k + 1]) for k, letter in enumerate(log)])
    fares = behind(machine, log)
    return tuple([(state, paid - fares[state]) for state in alive_of(machine) if fares[state] != NONE])


def ways_along(machine, log):
    """Return the list of all rows of states that a walker can go along a log."""
    return [row for row, _ in rows_along(machine, log) if machine[1][row[0]] != NONE]
