"""Tariffs: fares that are not known, receipts, and their rows ([10.1] to [10.3])."""

from faremachines.errors import NotAllowed, TooLarge
from faremachines.machines import MAX_FARE, NONE, count_ways, row_by, rows_ahead, way_fare
from faremachines.ratios import is_ratio_within, shared_terms
from faremachines.words import check_log, is_log

MAX_UNKNOWNS = 20
MAX_RIDE = 12
MAX_AMOUNT = 9999
MAX_RECEIPTS = 8
MAX_OTHERS = 30


def all_unknowns(frame):
    """Return the list of the unknowns, however many there are."""
    letters, firsts, moves, lasts = frame
    found = [("first", state) for state, fare in enumerate(firsts) if fare != NONE]
    for state, rows in enumerate(moves):
        for letter, row in zip(letters, rows):
            found.extend([("move", state, letter, after) for after, _ in row])
    return found + [("last", state) for state, fare in enumerate(lasts) if fare != NONE]


def check_frame(frame):
    """Raise TooLarge if there are too many unknowns."""
    if len(all_unknowns(frame)) > MAX_UNKNOWNS:
        raise TooLarge("there are more than 20 unknowns")


def unknowns_of(frame):
    """Return the list of the unknowns."""
    check_frame(frame)
    return all_unknowns(frame)


def check_way(frame, log, way):
    """Raise NotAllowed if a tuple of texts is not a log, or a tuple of integers is not a way of it."""
    check_log(frame[0], log)
    if way_fare(frame, log, way) == NONE:
        raise NotAllowed("these states are no way of the log")


def counts_along(frame, log, way):
    """Return the counts of a way of a log."""
    paid = {("first", way[0]): 1, ("last", way[-1]): 1}
    for at, letter in enumerate(log):
        move = ("move", way[at], letter, way[at + 1])
        paid[move] = paid.get(move, 0) + 1
    return tuple([paid.get(unknown, 0) for unknown in all_unknowns(frame)])


def counts_of(frame, log, way):
    """Return the counts of a way of a log."""
    check_frame(frame)
    check_way(frame, log, way)
    return counts_along(frame, log, way)


def is_receipt(frame, receipt):
    """Tell whether a tuple is a receipt, whatever its way."""
    log = receipt[1]
    if not is_log(frame[0], log) or len(log) > MAX_RIDE:
        return False
    if receipt[0] == "paid" and len(receipt) == 5:
        return receipt[3] in ("=", "<=", ">=") and 0 <= receipt[4] <= MAX_AMOUNT
    return receipt[0] == "least" and len(receipt) == 3


def check_receipts(frame, receipts):
    """Raise NotAllowed or TooLarge if receipts are not what they have to be."""
    if not all([is_receipt(frame, receipt) for receipt in receipts]):
        raise NotAllowed("this is no receipt")
    check_frame(frame)
    if len(receipts) > MAX_RECEIPTS:
        raise TooLarge("there are more than 8 receipts")
    for receipt in receipts:
        if receipt[0] == "least" and count_ways(frame, receipt[1]) > MAX_OTHERS:
            raise TooLarge("the log has more than 30 ways")
    for receipt in receipts:
        check_way(frame, receipt[1], receipt[2])


def all_ways(frame, log):
    """Return the ascending list of all ways of a log."""
    rests = rows_ahead(frame, frame[3], log)
    ways = [(state,) for state, fare in enumerate(frame[1]) if NONE not in (fare, rests[0][state])]
    for letter, fares in zip(log, rests[1:]):
        longer = []
        for way in ways:
            longer.extend([way + (after,) for after, _ in row_by(frame, way[-1], letter) if fares[after] != NONE])
        ways = longer
    return ways


def difference(counts, others):
    """Return the tuple of some integers less others."""
    return tuple([count - other for count, other in zip(counts, others)])


def rows_by(frame, receipt):
    """Return the list of the rows of a receipt."""
    log = receipt[1]
    way = receipt[2]
    counts = counts_along(frame, log, way)
    if receipt[0] == "least":
        others = [other for other in all_ways(frame, log) if other != way]
        return [(difference(counts, counts_along(frame, log, other)), 0) for other in others]
    below = (counts, receipt[4])
    above = (tuple([-count for count in counts]), -receipt[4])
    if receipt[3] == "=":
        return [below, above]
    return [below] if receipt[3] == "<=" else [above]


def rows_of_most(mosts):
    """Return the list of the rows that say that each unknown is at most an integer."""
    units = [tuple([1 if at == k else 0 for k in range(len(mosts))]) for at in range(len(mosts))]
    return list(zip(units, mosts))


def rows_told(frame, receipts):
    """Return the list of the rows of receipts that have been checked."""
    rows = []
    for receipt in receipts:
        rows.extend(rows_by(frame, receipt))
    return rows + rows_of_most([MAX_FARE] * len(all_unknowns(frame)))


def rows_of(frame, receipts):
    """Return the list of the rows of receipts."""
    check_receipts(frame, receipts)
    return rows_told(frame, receipts)


def keeps(rows, tariff):
    """Tell whether a tuple of ratios keeps all of some rows."""
    terms, below = shared_terms(tariff)
    for numbers, bound in rows:
        if sum([number * term for number, term in zip(numbers, terms)]) > bound * below:
            return False
    return True


def is_tariff_told(frame, tariff):
    """Tell whether pairs of integers are a ratio from 0 to MAX_FARE for each unknown."""
    return len(tariff) == len(all_unknowns(frame)) and all([is_ratio_within(ratio, MAX_FARE) for ratio in tariff])


def is_tariff(frame, receipts, tariff):
    """Tell whether a tuple of pairs of integers is a possible tariff."""
    check_receipts(frame, receipts)
    return is_tariff_told(frame, tariff) and keeps(rows_told(frame, receipts), tariff)
