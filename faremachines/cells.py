"""Places, gaps and steps; cells, and papers that a union is never dearer ([6.2] to [6.5])."""

from faremachines.errors import NotAllowed
from faremachines.machines import NONE, check_same_letters
from faremachines.singles import open_states, start_of

MAX_BOX = 500


def first_place(union, single):
    """Return the first place and the first gaps, or None."""
    check_same_letters(union[0], single)
    if 0 not in open_states(single):
        return None
    states = tuple([start_of(member) for member in union])
    gaps = [0 if state == NONE else member[1] - single[1] for member, state in zip(union, states)]
    return (0, states), tuple(gaps)


def place_after(union, single, good, place, at):
    """Return the place to which the letter with an index leads, and the steps, or None, by the open states."""
    after, paid = single[2][place[0]][at]
    if after not in good:
        return None
    pairs = [(NONE, NONE) if state == NONE else member[2][state][at] for member, state in zip(union, place[1])]
    steps = [0 if state == NONE else fare - paid for state, fare in pairs]
    return (after, tuple([state for state, _ in pairs])), tuple(steps)


def place_behind(union, single, place, letter):
    """Return the place to which a letter leads from one, and the steps, or None."""
    check_same_letters(union[0], single)
    if letter not in single[0]:
        raise NotAllowed("this is no letter")
    return place_after(union, single, open_states(single), place, single[0].index(letter))


def weighed(weights, numbers):
    """Return the sum of weights, times numbers."""
    return sum([weight * number for weight, number in zip(weights, numbers)])


def keeps_bound(bound, gaps):
    """Tell whether gaps keep a bound."""
    return weighed(bound[0], gaps) <= bound[1]


def leaves(number, rest):
    """Tell whether an integer leaves what a rest says by its modulus."""
    return (number - rest[2]) % rest[1] == 0


def keeps_rest(rest, gaps):
    """Tell whether gaps keep a rest."""
    return leaves(weighed(rest[0], gaps), rest)


def are_weights(states, weights):
    """Tell whether there is a weight for each member, and 0 for those that have stopped."""
    if len(weights) != len(states):
        return False
    return all([weight == 0 or state != NONE for weight, state in zip(weights, states)])


def is_cell(union, good, cell):
    """Tell whether a place, bounds and rests are a cell, by the open states."""
    (state, states), bounds, rests = cell
    if state not in good or len(states) != len(union):
        return False
    if not all([own == NONE or 0 <= own < len(member[2]) for own, member in zip(states, union)]):
        return False
    if not all([are_weights(states, told[0]) for told in bounds + rests]):
        return False
    return all([modulus >= 2 and 0 <= rest < modulus for _, modulus, rest in rests])


def is_nothing(weights):
    """Tell whether all weights are 0."""
    return all([weight == 0 for weight in weights])


def bound_follows(bounds, steps, bound):
    """Tell whether a bound behind some steps holds because of the bounds ahead of them."""
    weights, most = bound
    if is_nothing(weights) and most >= 0:
        return True
    return any([known == weights and number + weighed(weights, steps) <= most for known, number in bounds])


def rest_follows(rests, steps, rest):
    """Tell whether a rest behind some steps holds because of the rests ahead of them."""
    weights, modulus, left = rest
    if is_nothing(weights) and left == 0:
        return True
    for known, number, before in rests:
        if known == weights and number % modulus == 0 and leaves(before + weighed(weights, steps), rest):
            return True
    return False


def cell_follows(cell, steps, after):
    """Tell whether all in a cell behind some steps holds because of the cell ahead of them."""
    if not all([bound_follows(cell[1], steps, bound) for bound in after[1]]):
        return False
    return all([rest_follows(cell[2], steps, rest) for rest in after[2]])


def ending_needs(union, single, place):
    """Return a dict with the need of each member that ends at a place, by its index."""
    last = single[3][place[0]]
    needs = {}
    for at, state in enumerate(place[1]):
        if state != NONE and union[at][3][state] != NONE:
            needs[at] = 1 + last - union[at][3][state]
    return needs


def is_outside(weights, needs):
    """Tell whether weights are 0 for all members but those that end."""
    return all([weight == 0 or at in needs for at, weight in enumerate(weights)])


def counts_there(bound, needs):
    """Tell whether a bound counts, by the members that end."""
    return min(bound[0]) >= 0 and not is_nothing(bound[0]) and is_outside(bound[0], needs)


def needed(weights, needs):
    """Return the sum of weights, times the needs of the members that end."""
    return sum([weights[at] * needs[at] for at in needs])


def tops_of(bounds, needs):
    """Return a dict with the top of each member that ends, by bounds that count; None if one has no top."""
    tops = {}
    for at in needs:
        found = []
        for weights, most in bounds:
            if weights[at] > 0:
                others = needed(weights, needs) - weights[at] * needs[at]
                found.append((most - others) // weights[at])
        if not found:
            return None
        tops[at] = min(found)
    return tops


def box_of(members, needs, tops):
    """Return the list of the rows of integers from the needs to the tops, 0 for other members; None if too many."""
    many = 1
    for at in needs:
        many = many * (tops[at] - needs[at] + 1)
    if many > MAX_BOX:
        return None
    rows = [()]
    for at in range(members):
        numbers = list(range(needs[at], tops[at] + 1)) if at in needs else [0]
        rows = [row + (number,) for row in rows for number in numbers]
    return rows


def is_shut(union, single, cell):
    """Tell whether a cell whose state of the single machine has a last fare is shut."""
    place, bounds, rests = cell
    needs = ending_needs(union, single, place)
    counting = [bound for bound in bounds if counts_there(bound, needs)]
    if any([needed(weights, needs) > most for weights, most in counting]):
        return True
    # Now no top is less than the need.
    tops = tops_of(counting, needs) if needs else None
    rows = None if tops is None else box_of(len(union), needs, tops)
    if rows is None:
        return False
    bounds = [bound for bound in bounds if is_outside(bound[0], needs)]
    rests = [rest for rest in rests if is_outside(rest[0], needs)]
    for row in rows:
        if all([keeps_bound(bound, row) for bound in bounds]) and all([keeps_rest(rest, row) for rest in rests]):
            return False
    return True


def is_begun_by(start, cell):
    """Tell whether a cell has the first place, and the first gaps keep all that is in it."""
    place, gaps = start
    if cell[0] != place or not all([keeps_bound(bound, gaps) for bound in cell[1]]):
        return False
    return all([keeps_rest(rest, gaps) for rest in cell[2]])


def goes_on_by(union, single, good, cells, cell):
    """Tell whether for each letter some cell follows one; cells are told in a dict by their places."""
    for at in range(len(single[0])):
        behind = place_after(union, single, good, cell[0], at)
        if behind is None:
            continue
        place, steps = behind
        if not any([cell_follows(cell, steps, after) for after in cells.get(place, [])]):
            return False
    return True


def judge_cells(union, single, paper):
    """Tell whether a tuple of cells is a right paper that a union is never dearer than a single machine."""
    check_same_letters(union[0], single)
    good = open_states(single)
    if not all([is_cell(union, good, cell) for cell in paper]):
        return False
    start = first_place(union, single)
    if start is not None and not any([is_begun_by(start, cell) for cell in paper]):
        return False
    cells = {}
    for cell in paper:
        cells.setdefault(cell[0], []).append(cell)
    if not all([goes_on_by(union, single, good, cells, cell) for cell in paper]):
        return False
    return all([is_shut(union, single, cell) for cell in paper if single[3][cell[0][0]] != NONE])
