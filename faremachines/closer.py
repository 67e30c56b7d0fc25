"""The game of one who closes moves and one who walks, what is forced, and numbers with two judges ([11.5], [11.6])."""

from faremachines.errors import NotAllowed
from faremachines.machines import NONE, least_sum, row_by
from faremachines.words import check_log

MAX_RESERVE = 5


def check_game(machine, log, reserve):
    """Raise NotAllowed if a log is none, or a reserve is out of range."""
    check_log(machine[0], log)
    if not 0 <= reserve <= MAX_RESERVE:
        raise NotAllowed("a reserve is from 0 to 5")


def check_told(machine, log, reserve, c):
    """Raise NotAllowed if a log is none, or a reserve or an integer is out of range."""
    check_game(machine, log, reserve)
    if c < NONE:
        raise NotAllowed("what is forced is an integer from 0 on, or NONE")


def sums_by(row, behind):
    """Return the ascending list of the sums of the fares of moves and what is behind them, where there is something."""
    return sorted([fare + behind[after] for after, fare in row if behind[after] != NONE])


def forced_at(row, behind, reserve):
    """Return what is forced from a state whose moves are told, by the numbers behind for each reserve, or NONE."""
    open_sums = sums_by(row, behind[reserve])
    if not open_sums:
        return NONE
    if reserve == 0:
        return open_sums[0]
    # With the best move closed, the walker takes the one that comes next.
    closed_sums = sums_by(row, behind[reserve - 1])[1:]
    return max(open_sums[0], closed_sums[0]) if closed_sums else NONE


def layer_ahead(machine, behind, letter):
    """Return the numbers ahead of a letter, for each reserve, by those behind it."""
    rows = [row_by(machine, state, letter) for state in range(len(machine[1]))]
    return tuple([tuple([forced_at(row, behind, reserve) for row in rows]) for reserve in range(len(behind))])


def numbers_told(machine, log, reserve):
    """Return the true numbers for a log and a reserve."""
    layers = [(machine[3],) * (reserve + 1)]
    for letter in reversed(log):
        layers.append(layer_ahead(machine, layers[-1], letter))
    layers.reverse()
    return tuple(layers)


def true_numbers(machine, log, reserve):
    """Return the true numbers for a log and a reserve."""
    check_game(machine, log, reserve)
    return numbers_told(machine, log, reserve)


def fares_by_reserve(machine, log, reserve):
    """Return the list of what is forced with reserves from 0 to one, or NONE."""
    check_game(machine, log, reserve)
    return [least_sum(machine[1], numbers) for numbers in numbers_told(machine, log, reserve)[0]]


def forced_fare(machine, log, reserve):
    """Return what is forced, or NONE."""
    return fares_by_reserve(machine, log, reserve)[-1]


def are_numbers(machine, log, reserve, numbers):
    """Tell whether there is an integer from 0 on, or NONE, for each number of letters, each reserve and each state."""
    if len(numbers) != len(log) + 1 or not all([len(layer) == reserve + 1 for layer in numbers]):
        return False
    rows = [row for layer in numbers for row in layer]
    return all([len(row) == len(machine[1]) and min(row) >= NONE for row in rows])


def layers_by_letter(log, numbers):
    """Return the list of triples of a letter, and of the numbers ahead of it and behind it."""
    return list(zip(log, numbers, numbers[1:]))


def is_above_at(row, behind, reserve, number):
    """Tell whether the walker can keep to a number from a state whose moves are told, by the numbers behind."""
    if number == NONE:
        return True
    if not any([told <= number for told in sums_by(row, behind[reserve])]):
        return False
    if reserve == 0:
        return True
    # Whichever move is closed, there is another one just if there are two.
    return len([told for told in sums_by(row, behind[reserve - 1]) if told <= number]) >= 2


def judge_above(machine, log, reserve, c, numbers):
    """Tell whether numbers are right from above for what is forced."""
    check_told(machine, log, reserve, c)
    if c == NONE or not are_numbers(machine, log, reserve, numbers):
        return False
    for row in numbers[-1]:
        if not all([told == NONE or last != NONE and told >= last for told, last in zip(row, machine[3])]):
            return False
    for letter, ahead, behind in layers_by_letter(log, numbers):
        for left, row in enumerate(ahead):
            moves = [row_by(machine, state, letter) for state in range(len(row))]
            if not all([is_above_at(found, behind, left, told) for found, told in zip(moves, row)]):
                return False
    least = least_sum(machine[1], numbers[0][-1])
    return least != NONE and least <= c


def many_cheaper(row, behind, number):
    """Return how many moves cost less with what is behind them than a number, or than NONE, which is more than all."""
    return len([told for told in sums_by(row, behind) if number == NONE or told < number])


def is_below_at(row, behind, reserve, number):
    """Tell whether the closer can force a number from a state whose moves are told, by the numbers behind."""
    if many_cheaper(row, behind[reserve], number) == 0:
        return True
    return reserve > 0 and many_cheaper(row, behind[reserve - 1], number) <= 1


def judge_below(machine, log, reserve, c, numbers):
    """Tell whether numbers are right from below for what is forced."""
    check_told(machine, log, reserve, c)
    if not are_numbers(machine, log, reserve, numbers):
        return False
    for row in numbers[-1]:
        if not all([last == NONE or NONE < told <= last for told, last in zip(row, machine[3])]):
            return False
    for letter, ahead, behind in layers_by_letter(log, numbers):
        for left, row in enumerate(ahead):
            moves = [row_by(machine, state, letter) for state in range(len(row))]
            if not all([is_below_at(found, behind, left, told) for found, told in zip(moves, row)]):
                return False
    least = least_sum(machine[1], numbers[0][-1])
    return least == NONE or c != NONE and least >= c
