"""The cheapest slice of a log, its best edit, and its fares by several machines ([3.5], [3.6])."""

from faremachines.edited import Edited
from faremachines.errors import Missing, NotAllowed
from faremachines.machines import NONE, check_same_letters, fare_of, fares_after, least_of, least_sum
from faremachines.words import MAX_LOG, check_log


def better_slice(machine, log, start, least, best):
    """Return the pair of a fare and a slice that is the best of one, or None, and of the slices from an index on."""
    fares = machine[1]
    for end in range(start, len(log) + 1):
        if end > start:
            fares = fares_after(machine, fares, log[end - 1])
        paid = least_of([fare for fare in fares if fare != NONE])
        # Fares are not below 0, so what costs too much already costs no less with more letters.
        if paid == NONE or (best is not None and paid >= best[0]):
            break
        fare = least_sum(fares, machine[3])
        if end - start >= least and fare != NONE and (best is None or fare < best[0]):
            best = (fare, (start, end))
    return best


def cheapest_slice(machine, log, least):
    """Return the fare and the cheapest slice of a log with at least so many letters."""
    check_log(machine[0], log)
    if least < 0:
        raise NotAllowed("a slice has at least 0 letters")
    best = None
    for start in range(len(log) - least + 1):
        best = better_slice(machine, log, start, least, best)
    if best is None:
        raise Missing("no such slice can be gone")
    return best


def edits_of(letters, length):
    """Return the list of the edits that are possible for a log of so many letters, in order."""
    edits = [("cut", at) for at in range(length)]
    edits.extend([("change", at, letter) for at in range(length) for letter in letters])
    if length < MAX_LOG:
        edits.extend([("put", at, letter) for at in range(length + 1) for letter in letters])
    return edits


def best_edit(machine, log):
    """Return the fare behind the best edit of a log, and this edit."""
    kept = Edited(machine, log)
    edits = edits_of(machine[0], len(log))
    fares = [kept.fare_with(edit) for edit in edits]
    best = least_of([fare for fare in fares if fare != NONE])
    if best == NONE:
        raise Missing("behind no edit can the log be gone")
    return best, edits[fares.index(best)]


def fares_together(machines, log):
    """Return the list of the fares of a log by machines with the same letters."""
    if len(machines) == 0:
        raise NotAllowed("there are no machines")
    for machine in machines:
        check_same_letters(machines[0], machine)
    return [fare_of(machine, log) for machine in machines]
