"""The text of a machine ([1.7])."""

from faremachines.errors import BadForm
from faremachines.machines import MAX_FARE, MAX_STATES, NONE
from faremachines.words import are_letters

MAX_TEXT = 8000


def fare_text(fare):
    """Return the text of a fare, or of NONE."""
    return "none" if fare == NONE else str(fare)


def machine_lines(machine):
    """Return the lines of the text of a machine, all but the one with its letters."""
    letters, firsts, moves, lasts = machine
    lines = [f"state {fare_text(first)} {fare_text(last)}" for first, last in zip(firsts, lasts)]
    for state, rows in enumerate(moves):
        for letter, row in zip(letters, rows):
            for after, fare in row:
                lines.append(f"move {state} {letter} {after} {fare}")
    return lines


def letters_line(letters):
    """Return the line with the letters."""
    return "letters " + " ".join(letters)


def machine_text(machine):
    """Return the text of a machine."""
    lines = [letters_line(machine[0])] + machine_lines(machine)
    return "".join([line + "\n" for line in lines])


def number_in(text, most):
    """Return the number from 0 to `most` that is told in decimal digits, or None."""
    # The length is tested first: Python itself refuses to read very long numbers.
    if not 1 <= len(text) <= len(str(most)):
        return None
    if not all(["0" <= sign <= "9" for sign in text]):
        return None
    number = int(text)
    return number if str(number) == text and number <= most else None


def fare_in(text):
    """Return the fare that a text tells, NONE for `none`, or None if it tells neither."""
    return NONE if text == "none" else number_in(text, MAX_FARE)


def letters_in(line):
    """Return the letters that a line tells, or None if it is no line of letters."""
    parts = line.split(" ")
    letters = tuple(parts[1:])
    return letters if parts[0] == "letters" and are_letters(letters) else None


def state_in(line):
    """Return the first and the last fare that a line tells, or None if it is no line of a state."""
    parts = line.split(" ")
    if len(parts) != 3 or parts[0] != "state":
        return None
    pair = (fare_in(parts[1]), fare_in(parts[2]))
    return pair if None not in pair else None


def move_in(letters, many, line):
    """Return the state, the letter's index, the state behind and the fare of a move's line, or None.

    The machine has the letters, and so many states.
    """
    parts = line.split(" ")
    if len(parts) != 5 or parts[0] != "move" or parts[2] not in letters:
        return None
    state = number_in(parts[1], many - 1)
    after = number_in(parts[3], many - 1)
    fare = number_in(parts[4], MAX_FARE)
    if state is None or after is None or fare is None:
        return None
    return state, letters.index(parts[2]), after, fare


def read_states(lines, at):
    """Return the pairs of fares of the states from the line with an index on, and where they end."""
    states = []
    while at < len(lines) and len(states) < MAX_STATES:
        pair = state_in(lines[at])
        if pair is None:
            break
        states.append(pair)
        at += 1
    return states, at


def read_moves(letters, many, lines, at):
    """Return the moves from the line with an index on, in order, and where they end."""
    moves = []
    while at < len(lines):
        move = move_in(letters, many, lines[at])
        if move is None or (moves and move[:3] <= moves[-1][:3]):
            break
        moves.append(move)
        at += 1
    return moves, at


def moves_table(letters, many, moves):
    """Return the tuple with the rows of each state, of moves that stand in order."""
    table = [[[] for letter in letters] for state in range(many)]
    for state, at, after, fare in moves:
        table[state][at].append((after, fare))
    return tuple([tuple([tuple(row) for row in rows]) for rows in table])


def read_body(letters, lines, at):
    """Return the machine told from the line with an index on, and where it ends.

    There is None in the place of the machine if no line of a state stands there.
    """
    states, middle = read_states(lines, at)
    if not states:
        return None, at
    moves, end = read_moves(letters, len(states), lines, middle)
    firsts = tuple([first for first, last in states])
    lasts = tuple([last for first, last in states])
    return (letters, firsts, moves_table(letters, len(states), moves), lasts), end


def read_machine(text):
    """Return the machine that has a text."""
    if len(text) > MAX_TEXT:
        raise BadForm(0)
    lines = text.split("\n")
    # What stands behind the last newline is no line: it has to be empty.
    rest = lines.pop()
    letters = letters_in(lines[0]) if lines else None
    if letters is None:
        raise BadForm(1)
    machine, end = read_body(letters, lines, 1)
    if end < len(lines) or machine is None or rest != "":
        raise BadForm(end + 1)
    return machine
