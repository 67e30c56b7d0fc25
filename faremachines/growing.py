"""Expressions, their tables and logs, and growing papers ([7.3], [7.4])."""

from faremachines.errors import Missing, NotAllowed, TooLarge
from faremachines.limits import ENDLESS, combined, is_steady, letter_table, repeated, tables_up, value_of
from faremachines.words import MAX_LOG

MAX_NESTED = 30


def is_expression(machine, expression, left):
    """Tell whether a value is an expression with at most so many tuples around one another."""
    if isinstance(expression, str):
        return expression in machine[0]
    if left == 0 or len(expression) != 2:
        return False
    word, inner = expression
    if word == "turns":
        return is_expression(machine, inner, left - 1)
    if word != "row" or isinstance(inner, str) or len(inner) == 0:
        return False
    return all([is_expression(machine, part, left - 1) for part in inner])


def check_expression(machine, expression):
    """Raise NotAllowed if a nested value of texts and tuples is not an expression."""
    if not is_expression(machine, expression, MAX_NESTED):
        raise NotAllowed("this is no expression of the machine")


def table_or_none(machine, expression):
    """Return the table of an expression, or None."""
    if isinstance(expression, str):
        return letter_table(machine, expression)
    word, inner = expression
    if word == "turns":
        table = table_or_none(machine, inner)
        return None if table is None or not is_steady(table) else repeated(table)
    tables = [table_or_none(machine, part) for part in inner]
    if None in tables:
        return None
    table = tables[0]
    for other in tables[1:]:
        table = combined(table, other)
    return table


def table_of(machine, expression):
    """Return the table of an expression."""
    check_expression(machine, expression)
    table = table_or_none(machine, expression)
    if table is None:
        raise Missing("a part that is to be repeated is not steady")
    return table


def length_of(expression, n):
    """Return the number of the letters of the log of an expression for an integer."""
    if isinstance(expression, str):
        return 1
    word, inner = expression
    if word == "turns":
        return n * length_of(inner, n)
    return sum([length_of(part, n) for part in inner])


def letters_of(expression, n):
    """Return the log of an expression for an integer."""
    if isinstance(expression, str):
        return (expression,)
    word, inner = expression
    if word == "turns":
        return letters_of(inner, n) * n
    return tuple([letter for part in inner for letter in letters_of(part, n)])


def log_of(expression, n):
    """Return the log of an expression for an integer of at least 1."""
    if n < 1:
        raise NotAllowed("there is a log for 1 and more")
    if length_of(expression, n) > MAX_LOG:
        raise TooLarge("the log has more than 400 letters")
    return letters_of(expression, n)


def expression_of(found, table):
    """Return the expression of a table, by a dict with how tables come up."""
    parts = []
    how = found[table]
    while how[0] == "row":
        parts.append(part_of(found, how[2]))
        how = found[how[1]]
    parts.append(part_by(found, how))
    parts.reverse()
    return parts[0] if len(parts) == 1 else ("row", tuple(parts))


def part_of(found, table):
    """Return the expression of a table that comes up as that of a letter, or is repeated."""
    return part_by(found, found[table])


def part_by(found, how):
    """Return the expression of what is that of a letter, or is repeated."""
    return how[1] if how[0] == "letter" else ("turns", expression_of(found, how[1]))


def growing_paper(machine):
    """Return a growing paper."""
    found, endless = tables_up(machine)
    if endless is None:
        raise Missing("the machine is limited")
    return expression_of(found, endless)


def judge_growing(machine, paper):
    """Tell whether a nested value of texts and tuples is a growing paper."""
    if not is_expression(machine, paper, MAX_NESTED):
        return False
    table = table_or_none(machine, paper)
    return table is not None and value_of(machine, table) == ENDLESS
