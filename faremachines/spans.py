"""Top papers and papers of contradiction, spans of ways and logs, what is certain and what is open ([10.4], [10.5])."""

from faremachines.errors import Missing, NotAllowed, TooLarge
from faremachines.machines import MAX_FARE, count_ways
from faremachines.programs import Program
from faremachines.ratios import are_ratios_from_0, is_at_most, is_ratio, opposite, ratio_of, shared_terms, weighed_ratio
from faremachines.tariffs import MAX_OTHERS, all_unknowns, all_ways, check_receipts, check_way, counts_along
from faremachines.tariffs import is_tariff_told, keeps, rows_by, rows_of_most, rows_told


def check_numbers(frame, numbers):
    """Raise NotAllowed if there is not one integer for each unknown."""
    if len(numbers) != len(all_unknowns(frame)):
        raise NotAllowed("there is one number for each unknown")


def greatest_of(rows, numbers):
    """Return the greatest sum of numbers, times ratios that keep all rows."""
    program = Program(rows, numbers, 0)
    if program.is_endless():
        raise Missing("no tariff is possible")
    return program.value()


def least_of_all(rows, numbers):
    """Return the least sum of numbers, times ratios that keep all rows."""
    return opposite(greatest_of(rows, tuple([-number for number in numbers])))


def top_paper(frame, receipts, numbers):
    """Return a right top paper for some numbers."""
    check_receipts(frame, receipts)
    check_numbers(frame, numbers)
    program = Program(rows_told(frame, receipts), numbers, 0)
    if program.is_endless():
        raise Missing("no tariff is possible")
    return program.value(), program.tariff(), program.multipliers()


def sum_of_rows(rows, multipliers):
    """Return the sum of rows, times multipliers, and the integer by which all of it is to be divided."""
    terms, below = shared_terms(multipliers)
    # There are no rows if there are no unknowns.
    many = len(rows[0][0]) if rows else 0
    sums = [sum([row[0][at] * term for row, term in zip(rows, terms)]) for at in range(many)]
    return sums, sum([row[1] * term for row, term in zip(rows, terms)]), below


def is_top_paper(frame, receipts, numbers, paper):
    """Tell whether a value, a tariff and multipliers are a right top paper for some numbers."""
    check_receipts(frame, receipts)
    check_numbers(frame, numbers)
    value, tariff, multipliers = paper
    rows = rows_told(frame, receipts)
    if not is_ratio(value) or not is_tariff_told(frame, tariff) or not are_ratios_from_0(multipliers, len(rows)):
        return False
    if not keeps(rows, tariff) or weighed_ratio(numbers, tariff) != value:
        return False
    sums, bound, below = sum_of_rows(rows, multipliers)
    if not all([told >= number * below for told, number in zip(sums, numbers)]):
        return False
    return ratio_of(bound, below) == value


def contradiction(frame, receipts):
    """Return a right paper of contradiction."""
    check_receipts(frame, receipts)
    program = Program(rows_told(frame, receipts), (0,) * len(all_unknowns(frame)), 0)
    if not program.is_endless():
        raise Missing("a tariff is possible")
    return program.endless_multipliers()


def is_contradiction(frame, receipts, paper):
    """Tell whether a tuple of pairs of integers is a right paper of contradiction."""
    check_receipts(frame, receipts)
    rows = rows_told(frame, receipts)
    if not are_ratios_from_0(paper, len(rows)):
        return False
    sums, bound, _ = sum_of_rows(rows, paper)
    return all([number >= 0 for number in sums]) and bound < 0


def way_span(frame, receipts, log, way):
    """Return the least and the greatest ratio that a way of a log costs by possible tariffs."""
    check_receipts(frame, receipts)
    check_way(frame, log, way)
    rows = rows_told(frame, receipts)
    counts = counts_along(frame, log, way)
    return least_of_all(rows, counts), greatest_of(rows, counts)


def greatest_fare_of(frame, receipts, counts_told):
    """Return the greatest ratio that the cheapest of some ways costs by possible tariffs; their counts are told."""
    many = len(all_unknowns(frame))
    # One unknown more is the fare: it is at most what each way costs.
    rows = [(numbers + (0,), bound) for receipt in receipts for numbers, bound in rows_by(frame, receipt)]
    rows = rows + [(tuple([-count for count in counts]) + (1,), 0) for counts in counts_told]
    most = MAX_FARE * max([sum(counts) for counts in counts_told])
    return greatest_of(rows + rows_of_most([MAX_FARE] * many + [most]), (0,) * many + (1,))


def log_span(frame, receipts, log):
    """Return the least and the greatest ratio that a log costs by possible tariffs."""
    check_receipts(frame, receipts)
    many = count_ways(frame, log)
    if many > MAX_OTHERS:
        raise TooLarge("the log has more than 30 ways")
    if many == 0:
        raise Missing("the log cannot be gone")
    counts_told = [counts_along(frame, log, way) for way in all_ways(frame, log)]
    greatest = greatest_fare_of(frame, receipts, counts_told)
    rows = rows_told(frame, receipts)
    least = greatest
    for counts in counts_told:
        fare = least_of_all(rows, counts)
        least = fare if is_at_most(fare, least) else least
    return least, greatest


def is_possible(rows):
    """Tell whether some ratios keep all rows."""
    many = len(rows[0][0]) if rows else 0
    return not Program(rows, (0,) * many, 0).is_endless()


def is_certain(frame, receipts, receipt):
    """Tell whether a receipt is true by all possible tariffs."""
    check_receipts(frame, receipts + [receipt])
    rows = rows_told(frame, receipts)
    if not is_possible(rows):
        return True
    return all([is_at_most(greatest_of(rows, numbers), (bound, 1)) for numbers, bound in rows_by(frame, receipt)])


def is_open(frame, receipts, receipt):
    """Tell whether a receipt is true by some possible tariff."""
    check_receipts(frame, receipts + [receipt])
    return is_possible(rows_told(frame, receipts + [receipt]))
