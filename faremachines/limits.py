"""Whether fares grow without end: marks, tables, and closed papers ([7.1], [7.2], [7.5])."""

from heapq import heappop, heappush

from faremachines.errors import Missing, NotAllowed, TooLarge
from faremachines.machines import NONE, move_fare

MAX_TABLES = 300
FREE = 0
SOME = 1
ENDLESS = 2
LACKING = 3


def mark_of(fare):
    """Return the mark of a fare, or of NONE."""
    if fare == NONE:
        return LACKING
    return FREE if fare == 0 else SOME


def letter_table(machine, letter):
    """Return the table of a letter."""
    if letter not in machine[0]:
        raise NotAllowed("this is no letter of the machine")
    states = range(len(machine[1]))
    return tuple([tuple([mark_of(move_fare(machine, p, letter, q)) for q in states]) for p in states])


def row_combined(row, columns):
    """Return a row of a table, combined with a table that is told by its columns."""
    return tuple([min([max(mark, other) for mark, other in zip(row, column)]) for column in columns])


def columns_of(table):
    """Return the list of the columns of a table."""
    return [tuple([row[q] for row in table]) for q in range(len(table))]


def combined(first, second):
    """Return two tables combined."""
    columns = columns_of(second)
    return tuple([row_combined(row, columns) for row in first])


def is_steady(table):
    """Tell whether a table is steady."""
    return combined(table, table) == table


def mark_of_turns(mark):
    """Return the mark that stands for many turns at a state, by the mark from it to itself."""
    return mark if mark in (FREE, LACKING) else ENDLESS


def repeated(table):
    """Return a steady table repeated."""
    if not is_steady(table):
        raise NotAllowed("only a steady table can be repeated")
    states = range(len(table))
    turns = [mark_of_turns(table[k][k]) for k in states]
    rows = [[[max(table[p][k], turns[k], table[k][q]) for k in states] for q in states] for p in states]
    return tuple([tuple([min(marks) for marks in row]) for row in rows])


def value_of(machine, table):
    """Return the value of a table."""
    firsts = [mark_of(fare) for fare in machine[1]]
    lasts = [mark_of(fare) for fare in machine[3]]
    states = range(len(table))
    return min([max(firsts[p], table[p][q], lasts[q]) for p in states for q in states])


def combined_by(table, second, rows):
    """Return two tables combined; a dict keeps how the rows of first ones are combined with the second one."""
    columns = columns_of(second)
    for row in table:
        if row not in rows:
            rows[row] = row_combined(row, columns)
    return tuple([rows[row] for row in table])


def tables_after(sizes, parts, table, how):
    """Return the list of what comes up when a table has come up: sizes, the table, and how it comes up.

    The sizes are how many turns stand around one another in its shortest expressions, and how many
    letters these have. The parts are a dict with the tables of letters and those that were repeated,
    with which all others are combined from the left.
    """
    pairs = [(table, other) for other in parts]
    if how[0] != "row":
        parts[table] = {}
        pairs.extend([(other, table) for other in sizes])
    found = []
    for one, other in pairs:
        (turns, letters), (more_turns, more_letters) = (sizes[one], sizes[other])
        after = combined_by(one, other, parts[other])
        found.append((max(turns, more_turns), letters + more_letters, after, ("row", one, other)))
    if is_steady(table):
        found.append((sizes[table][0] + 1, sizes[table][1], repeated(table), ("turns", table)))
    return found


def tables_up(machine):
    """Return a dict with how each table comes up from those of the letters, and the first with the value 2, or None.

    A table comes up as that of a letter, of two that stand in a row, or as one that is repeated. It is
    looked at ahead of all that have more turns around one another, or as many and more letters.
    """
    letters = machine[0]
    queue = [(0, 1, at, letter_table(machine, letter), ("letter", letter)) for at, letter in enumerate(letters)]
    number = len(queue)
    found = {}
    sizes = {}
    parts = {}
    while queue:
        turns, length, _, table, how = heappop(queue)
        if table in found:
            continue
        is_endless = value_of(machine, table) == ENDLESS
        if len(found) == MAX_TABLES and not is_endless:
            raise TooLarge("more than 300 tables come up")
        found[table] = how
        if is_endless:
            return found, table
        sizes[table] = (turns, length)
        for more_turns, more_letters, after, told in tables_after(sizes, parts, table, how):
            if after not in found:
                heappush(queue, (more_turns, more_letters, number, after, told))
                number += 1
    return found, None


def is_limited(machine):
    """Tell whether a machine is limited."""
    return tables_up(machine)[1] is None


def closed_paper(machine):
    """Return the least closed paper of a machine."""
    found, endless = tables_up(machine)
    if endless is not None:
        raise Missing("the machine is not limited")
    return tuple(sorted(found))


def is_table(many, table):
    """Tell whether tuples of integers are a table for so many states."""
    if len(table) != many or not all([len(row) == many for row in table]):
        return False
    return all([FREE <= mark <= LACKING for row in table for mark in row])


def are_closed(tables):
    """Tell whether a dict of tables has each two of them combined."""
    # Each one that is no product of those ahead becomes a part. If each product of parts is there, and
    # each table is such a product, then two tables combined are one, too: it does not matter how they are grouped.
    made = {}
    parts = {}
    for table in tables:
        if table in made:
            continue
        parts[table] = {}
        queue = [table] + [combined_by(other, table, parts[table]) for other in made]
        while queue:
            found = queue.pop()
            if found not in tables:
                return False
            if found not in made:
                made[found] = True
                queue.extend([combined_by(found, part, parts[part]) for part in parts])
    return True


def judge_closed(machine, paper):
    """Tell whether a tuple of tables is a right closed paper."""
    if not all([is_table(len(machine[1]), table) for table in paper]):
        return False
    if list(paper) != sorted(set(paper)):
        return False
    tables = {table: True for table in paper}
    if not all([letter_table(machine, letter) in tables for letter in machine[0]]):
        return False
    if any([value_of(machine, table) == ENDLESS for table in paper]):
        return False
    if not all([repeated(table) in tables for table in paper if is_steady(table)]):
        return False
    return are_closed(tables)
