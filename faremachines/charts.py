"""Charts of logs, and their product ([3.1])."""

from faremachines.machines import NONE, least_sum, rows_behind
from faremachines.words import check_log


def chart_of(machine, log):
    """Return the chart of a log."""
    check_log(machine[0], log)
    states = range(len(machine[1]))
    starts = [tuple([0 if state == start else NONE for state in states]) for start in states]
    return tuple([rows_behind(machine, fares, log)[-1] for fares in starts])


def product(first, second):
    """Return the product of two charts with as many states."""
    columns = [[row[state] for row in second] for state in range(len(second))]
    return tuple([tuple([least_sum(row, column) for column in columns]) for row in first])


def fare_by_chart(machine, chart):
    """Return the fare of a log with a chart, or NONE."""
    rests = [least_sum(row, machine[3]) for row in chart]
    return least_sum(machine[1], rests)
