"""Receipts that contradict one another: clashes, what fits, errors, and error papers ([10.6], [10.7])."""

from itertools import combinations

from faremachines.machines import MAX_FARE
from faremachines.programs import Program
from faremachines.ratios import are_ratios_from_0, is_at_most, is_ratio, is_ratio_within, opposite, ratio_of
from faremachines.ratios import shared_terms, sum_of
from faremachines.spans import is_possible, sum_of_rows
from faremachines.tariffs import all_unknowns, check_receipts, keeps, rows_told


def first_clash(frame, receipts):
    """Return the least number of receipts, from the beginning on, that contradict one another, or 0."""
    check_receipts(frame, receipts)
    for many in range(1, len(receipts) + 1):
        if not is_possible(rows_told(frame, receipts[:many])):
            return many
    return 0


def is_part(part, whole):
    """Tell whether all indexes of a tuple are in another one."""
    return all([at in whole for at in part])


def true_by(frame, receipts, tariff):
    """Return the tuple of the indexes of the receipts that are true by a tariff."""
    return tuple([at for at, receipt in enumerate(receipts) if keeps(rows_told(frame, [receipt]), tariff)])


def parts_of(receipts):
    """Return the list of the ascending tuples of indexes, those with fewer first, of as many the first one."""
    indexes = list(range(len(receipts)))
    return [part for size in range(len(indexes) + 1) for part in combinations(indexes, size)]


def clashes_among(frame, receipts):
    """Return the list of all clashes of receipts that have been checked."""
    found = []
    fits = []
    for part in parts_of(receipts):
        if any([is_part(clash, part) for clash in found]) or any([is_part(part, fit) for fit in fits]):
            continue
        program = Program(rows_told(frame, [receipts[at] for at in part]), (0,) * len(all_unknowns(frame)), 0)
        if program.is_endless():
            # All parts of it come ahead of it, and are no clashes.
            found.append(part)
        else:
            fits.append(true_by(frame, receipts, program.tariff()))
    return found


def clashes(frame, receipts):
    """Return the list of all clashes."""
    check_receipts(frame, receipts)
    return clashes_among(frame, receipts)


def fitting(frame, receipts):
    """Return the list of all that fits."""
    check_receipts(frame, receipts)
    found = clashes_among(frame, receipts)
    possible = [part for part in parts_of(receipts) if not any([is_part(clash, part) for clash in found])]
    return [part for part in possible if not any([is_part(part, other) and part != other for other in possible])]


def errors_by(rows, many, tariff):
    """Return the tuple of the errors of all rows but the last ones, so many, as small as a tariff lets them be."""
    terms, below = shared_terms(tariff)
    errors = []
    for numbers, bound in rows[:len(rows) - many]:
        more = sum([number * term for number, term in zip(numbers, terms)]) - bound * below
        errors.append(ratio_of(max(more, 0), below))
    return tuple(errors)


def error_paper(frame, receipts):
    """Return a right error paper."""
    check_receipts(frame, receipts)
    rows = rows_told(frame, receipts)
    many = len(all_unknowns(frame))
    program = Program(rows, (0,) * many, len(rows) - many)
    tariff = program.tariff()
    return opposite(program.value()), tariff, errors_by(rows, many, tariff), program.multipliers()


def are_errors(rows, tariff, errors):
    """Tell whether the errors of the first rows let a tariff keep them, which keeps the others."""
    terms, below = shared_terms(tariff)
    for (numbers, bound), (p, q) in zip(rows, errors):
        if (sum([number * term for number, term in zip(numbers, terms)]) - bound * below) * q > p * below:
            return False
    return True


def is_error_paper(frame, receipts, paper):
    """Tell whether a ratio, a tariff, errors and multipliers are a right error paper."""
    check_receipts(frame, receipts)
    least, tariff, errors, multipliers = paper
    rows = rows_told(frame, receipts)
    many = len(all_unknowns(frame))
    if not is_ratio(least) or len(tariff) != many or not all([is_ratio_within(ratio, MAX_FARE) for ratio in tariff]):
        return False
    if not are_ratios_from_0(errors, len(rows) - many) or not are_ratios_from_0(multipliers, len(rows)):
        return False
    if sum_of(errors) != least or not are_errors(rows, tariff, errors):
        return False
    if not all([is_at_most(ratio, (1, 1)) for ratio in multipliers[:len(errors)]]):
        return False
    sums, bound, below = sum_of_rows(rows, multipliers)
    return all([number >= 0 for number in sums]) and ratio_of(bound, below) == opposite(least)
