"""Walkers by state alone: the best start and choice ([4.4])."""

from faremachines.errors import Missing, NotAllowed, TooLarge
from faremachines.machines import NONE
from faremachines.walkers import regret

MAX_CHOICES = 3000


def targets_by(row):
    """Return the list of the states that a choice can have for the moves by a letter."""
    return [after for after, _ in row] if row else [NONE]


def is_choice(machine, choice):
    """Tell whether a tuple of tuples of integers is a choice of a machine."""
    if len(choice) != len(machine[1]):
        return False
    for rows, targets in zip(machine[2], choice):
        if len(targets) != len(rows):
            return False
        if not all([target in targets_by(row) for row, target in zip(rows, targets)]):
            return False
    return True


def walker_by(start, choice):
    """Return the walker of a start and a choice."""
    met = [start]
    at = 0
    while at < len(met):
        # The list grows by each state as it is met, so that it is in it once.
        for target in choice[met[at]]:
            if target != NONE and target not in met:
                met.append(target)
        at += 1
    spots = []
    for state in met:
        spots.append((state, tuple([NONE if target == NONE else met.index(target) for target in choice[state]])))
    return tuple(spots)


def state_walker(machine, start, choice):
    """Return the walker of a start and a choice."""
    if not 0 <= start < len(machine[1]) or machine[1][start] == NONE:
        raise NotAllowed("the start has a first fare")
    if not is_choice(machine, choice):
        raise NotAllowed("a choice has a state to which a move leads, or NONE if there is none")
    return walker_by(start, choice)


def many_choices(machine):
    """Return the number of the choices of a machine."""
    many = 1
    for rows in machine[2]:
        for row in rows:
            many = many * len(targets_by(row))
    return many


def choices_of(machine):
    """Return the list of the choices of a machine, in order."""
    found = [()]
    for rows in machine[2]:
        targets = [()]
        for row in rows:
            targets = [ahead + (target,) for ahead in targets for target in targets_by(row)]
        found = [choice + (target,) for choice in found for target in targets]
    return found


def regret_or_none(machine, walker):
    """Return the regret of a walker, None if it has none."""
    try:
        return regret(machine, walker)
    except Missing:
        return None


def best_by_state(machine):
    """Return the least regret by state alone, and the first start and choice with it."""
    starts = [state for state, fare in enumerate(machine[1]) if fare != NONE]
    if len(starts) * many_choices(machine) > MAX_CHOICES:
        raise TooLarge("there are more than 3000 pairs of a start and a choice")
    best = None
    # Choices that differ where the walker never comes make the same walker.
    regrets = {}
    for start in starts:
        for choice in choices_of(machine):
            walker = walker_by(start, choice)
            if walker not in regrets:
                regrets[walker] = regret_or_none(machine, walker)
            more = regrets[walker]
            if more is not None and (best is None or more < best[0]):
                best = (more, start, choice)
    if best is None:
        raise Missing("no choice has a regret")
    return best
