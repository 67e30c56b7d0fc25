"""What the points about limits say ([7.1] to [7.7]), as plainly as they say it."""

from tests.samples import NONE, step_fare


def mark(fare):
    """Return the mark of a fare."""
    return 3 if fare == NONE else 0 if fare == 0 else 1


def table_by(machine, letter):
    """Return the table of a letter."""
    states = range(len(machine[1]))
    return tuple([tuple([mark(step_fare(machine, p, letter, q)) for q in states]) for p in states])


def put_together(first, second):
    """Return two tables combined."""
    states = range(len(first))
    return tuple([tuple([min(max(first[p][k], second[k][q]) for k in states) for q in states]) for p in states])


def again_and_again(table):
    """Return a table repeated, or None if it is not steady."""
    if put_together(table, table) != table:
        return None
    states = range(len(table))
    turns = [{0: 0, 1: 2, 2: 2, 3: 3}[table[k][k]] for k in states]
    return tuple([
        tuple([min(max(table[p][k], turns[k], table[k][q]) for k in states) for q in states]) for p in states
    ])


def worth(machine, table):
    """Return the value of a table."""
    states = range(len(table))
    firsts, lasts = [[mark(fare) for fare in fares] for fares in (machine[1], machine[3])]
    return min(max(firsts[p], table[p][q], lasts[q]) for p in states for q in states)


def all_tables(machine, most=60):
    """Return the list of the tables that come up, None if there are more than so many."""
    found = []
    queue = [table_by(machine, letter) for letter in machine[0]]
    while queue:
        table = queue.pop(0)
        if table in found:
            continue
        found.append(table)
        if len(found) > most:
            return None
        queue += [put_together(one, other) for known in found for one, other in ((known, table), (table, known))]
        queue += [] if again_and_again(table) is None else [again_and_again(table)]
    return found


def is_closed(machine, paper):
    """Tell whether a closed paper is right."""
    many = len(machine[1])
    for table in paper:
        if len(table) != many or any(len(row) != many or not set(row) <= {0, 1, 2, 3} for row in table):
            return False
    if list(paper) != sorted(paper) or len(set(paper)) != len(paper):
        return False
    if any(table_by(machine, letter) not in paper for letter in machine[0]):
        return False
    if any(put_together(one, other) not in paper for one in paper for other in paper):
        return False
    if any(again_and_again(table) not in paper + (None,) for table in paper):
        return False
    return all(worth(machine, table) != 2 for table in paper)


def expression_told(machine, told, left=30):
    """Tell whether a nested value is an expression."""
    if isinstance(told, str):
        return told in machine[0]
    if left == 0 or len(told) != 2 or told[0] not in ("row", "turns"):
        return False
    if told[0] == "turns":
        return expression_told(machine, told[1], left - 1)
    return isinstance(told[1], tuple) and told[1] != () and all(expression_told(machine, k, left - 1) for k in told[1])


def table_told(machine, told):
    """Return the table of an expression, or None."""
    if isinstance(told, str):
        return table_by(machine, told)
    if told[0] == "turns":
        table = table_told(machine, told[1])
        return None if table is None else again_and_again(table)
    tables = [table_told(machine, part) for part in told[1]]
    if None in tables:
        return None
    while len(tables) > 1:
        tables = [put_together(tables[0], tables[1])] + tables[2:]
    return tables[0]


def log_told(told, n):
    """Return the log of an expression for n."""
    if isinstance(told, str):
        return (told,)
    if told[0] == "turns":
        return log_told(told[1], n) * n
    return sum([log_told(part, n) for part in told[1]], ())


def next_fares(machine, fares, letter, c):
    """Return the fares behind a letter more, cut."""
    found = []
    for t in range(len(fares)):
        sums = [fare + step_fare(machine, s, letter, t) for s, fare in enumerate(fares)
                if fare != NONE and step_fare(machine, s, letter, t) != NONE]
        found.append(min(min(sums), c) if sums else NONE)
    return tuple(found)


def cost_behind(machine, fares):
    """Return the least sum of fares and last fares, or NONE."""
    return min([fare + last for fare, last in zip(fares, machine[3]) if NONE not in (fare, last)], default=NONE)


def is_row_paper(machine, c, paper):
    """Tell whether a row paper is right."""
    if list(paper) != sorted(paper) or len(set(paper)) != len(paper):
        return False
    if any(len(row) != len(machine[1]) or min(row) < -1 or max(row) > c for row in paper):
        return False
    if tuple([min(fare, c) for fare in machine[1]]) not in paper:
        return False
    if any(next_fares(machine, row, letter, c) not in paper for row in paper for letter in machine[0]):
        return False
    return all(cost_behind(machine, row) < c for row in paper)
