"""The desk, which answers scripts ([9.4], [9.5])."""

from faremachines.bystate import best_by_state
from faremachines.cheapest import cheapest_ways
from faremachines.dearer import never_dearer
from faremachines.errors import Broken, Missing, NotAllowed, TooLarge
from faremachines.forced import forced
from faremachines.greatest import greatest_fare
from faremachines.limits import is_limited
from faremachines.machines import MAX_STATES, NONE, best_way, fare_of
from faremachines.made import made
from faremachines.office import Office
from faremachines.regretgame import least_regret
from faremachines.rounds import rounds
from faremachines.slices import best_edit, cheapest_slice
from faremachines.texts import fare_text, number_in

MAX_SCRIPT = 4000
MAX_LINES = 100
MAX_TOLD = 9999999

# What stands behind the first word of a line: numbers, numbers or `none`, words, and one word or more.
FORMS = {
    "letters": ("words",), "new": ("number",), "first": ("number", "number", "bound"),
    "last": ("number", "number", "bound"), "move": ("number", "number", "word", "number", "bound"),
    "drop": ("number",), "bound": ("number", "bound"), "undo": (), "put": ("number", "word"), "cut": ("number",),
    "change": ("number", "word"), "log": (), "fares": (), "bounds": (), "fare": ("number", "words"),
    "way": ("number",), "ways": ("number", "number"), "slice": ("number", "number"), "edit": ("number",),
    "single": ("number",), "rounds": ("number",), "never": ("number", "number"), "limited": ("number",),
    "greatest": ("number",), "state": ("number",), "regret": ("number", "number"), "forced": ("number", "number"),
}


def spaced(parts):
    """Return some integers and texts with single spaces between them, `-` if there are none."""
    return " ".join([str(part) for part in parts]) if parts else "-"


def machine_of(office, number):
    """Return the machine of an office with a number."""
    for known, machine, _ in office.machines():
        if known == number:
            return machine
    raise Missing("there is no machine with this number")


def add_new(office, many):
    """Add a machine with so many states, and return its number."""
    if not 1 <= many <= MAX_STATES:
        raise NotAllowed("a machine has 1 to 8 states")
    letters = office.letters()
    bare = (NONE,) * many
    return str(office.add((letters, bare, (((),) * len(letters),) * many, bare)))


def set_first(office, number, state, fare):
    """Set a first fare."""
    office.set_first(number, state, fare)
    return "ok"


def set_last(office, number, state, fare):
    """Set a last fare."""
    office.set_last(number, state, fare)
    return "ok"


def set_move(office, number, state, letter, after, fare):
    """Set a move."""
    office.set_move(number, state, letter, after, fare)
    return "ok"


def drop(office, number):
    """Take a machine away."""
    office.drop(number)
    return "ok"


def set_bound(office, number, bound):
    """Set a bound."""
    office.set_bound(number, bound)
    return "ok"


def undo(office):
    """Take back the last change."""
    office.undo()
    return "ok"


def put(office, at, letter):
    """Put a letter into the log."""
    office.edit(("put", at, letter))
    return "ok"


def cut(office, at):
    """Take a letter of the log away."""
    office.edit(("cut", at))
    return "ok"


def change(office, at, letter):
    """Exchange a letter of the log."""
    office.edit(("change", at, letter))
    return "ok"


def tell_log(office):
    """Return the text of the log."""
    return spaced(office.log())


def tell_fares(office):
    """Return the fares of the log by all machines."""
    return spaced([f"{number}={fare_text(fare)}" for number, fare in office.fares()])


def tell_bounds(office):
    """Return the bounds of all machines."""
    return spaced([f"{number}={fare_text(bound)}" for number, _, bound in office.machines()])


def tell_fare(office, number, log):
    """Return the fare of a log by a machine."""
    return fare_text(fare_of(machine_of(office, number), log))


def tell_way(office, number):
    """Return the states of the best way of the log."""
    way = best_way(machine_of(office, number), office.log())
    return "none" if way is None else spaced(way)


def tell_ways(office, number, many):
    """Return the fares of the so many cheapest ways of the log."""
    return spaced([fare for fare, _ in cheapest_ways(machine_of(office, number), office.log(), many)])


def tell_slice(office, number, least):
    """Return the fare and the cheapest slice of the log with at least so many letters."""
    fare, part = cheapest_slice(machine_of(office, number), office.log(), least)
    return f"{fare} : {spaced(part)}"


def tell_edit(office, number):
    """Return the fare behind the best edit of the log, and this."""
    fare, edit = best_edit(machine_of(office, number), office.log())
    return f"{fare} : {spaced(edit)}"


def tell_single(office, number):
    """Return the number of the states of the least single machine that costs the same."""
    return str(len(made(machine_of(office, number))[2]))


def tell_rounds(office, number):
    """Return whether rounds are alike or drift apart."""
    return rounds(machine_of(office, number))[0]


def tell_never(office, number, other):
    """Return whether the single machine made of one machine is never dearer than that made of another one."""
    machines = [machine_of(office, number), machine_of(office, other)]
    return never_dearer(made(machines[0]), made(machines[1]))[0]


def tell_limited(office, number):
    """Return whether a machine is limited."""
    return "yes" if is_limited(machine_of(office, number)) else "no"


def tell_greatest(office, number):
    """Return the greatest fare."""
    return str(greatest_fare(machine_of(office, number)))


def tell_state(office, number):
    """Return the least regret by state alone."""
    return str(best_by_state(machine_of(office, number))[0])


def tell_regret(office, number, cap):
    """Return the least regret with a cap."""
    return str(least_regret(machine_of(office, number), cap))


def tell_forced(office, number, turns):
    """Return what is forced within so many letters."""
    least = forced(machine_of(office, number), turns)
    return "none" if least is None else str(least)


ACTIONS = {
    "new": add_new, "first": set_first, "last": set_last, "move": set_move, "drop": drop, "bound": set_bound,
    "undo": undo, "put": put, "cut": cut, "change": change, "log": tell_log, "fares": tell_fares,
    "bounds": tell_bounds, "fare": tell_fare, "way": tell_way, "ways": tell_ways, "slice": tell_slice,
    "edit": tell_edit, "single": tell_single, "rounds": tell_rounds, "never": tell_never, "limited": tell_limited,
    "greatest": tell_greatest, "state": tell_state, "regret": tell_regret, "forced": tell_forced,
}


def word_in(text):
    """Return a text of one or more small letters, or None if it is none."""
    return text if text != "" and all(["a" <= sign <= "z" for sign in text]) else None


def bound_in(text):
    """Return the number that a text tells, NONE for `none`, or None if it tells neither."""
    return NONE if text == "none" else number_in(text, MAX_TOLD)


def part_in(kind, text):
    """Return what a text tells as a part of a kind, or None."""
    if kind == "number":
        return number_in(text, MAX_TOLD)
    return bound_in(text) if kind == "bound" else word_in(text)


def parts_in(form, texts):
    """Return the list of the parts that some texts tell by a form, or None if they have not this form."""
    kinds = list(form)
    if kinds and kinds[-1] == "words":
        many = len(texts) - len(kinds) + 1
        kinds = kinds[:-1] + ["word"] * many
    if len(kinds) < len(form) or len(kinds) != len(texts):
        return None
    parts = [part_in(kind, text) for kind, text in zip(kinds, texts)]
    if None in parts:
        return None
    if form and form[-1] == "words":
        least = len(form) - 1
        parts = parts[:least] + [tuple(parts[least:])]
    return parts


def answer_of(office, word, parts):
    """Return the answer of an office to a line."""
    action = ACTIONS[word]
    return action(office, *parts)


def answered(office, line):
    """Return the office behind a line, or None, and the answer; there may be None ahead of it, too."""
    texts = line.split(" ")
    form = FORMS.get(texts[0])
    parts = None if form is None else parts_in(form, texts[1:])
    if parts is None:
        return office, ("" if line == "" else "bad")
    if texts[0] != "letters" and office is None:
        return None, "none"
    try:
        if texts[0] == "letters":
            return Office(parts[0]), "ok"
        return office, answer_of(office, texts[0], parts)
    except NotAllowed:
        return office, "refused"
    except Missing:
        return office, "missing"
    except TooLarge:
        return office, "large"
    except Broken as error:
        return office, f"broken {error.number} {fare_text(error.fare)}"


def run_script(script):
    """Return the list of the answers to the lines of a script."""
    lines = script.split("\n")
    if len(script) > MAX_SCRIPT or len(lines) > MAX_LINES:
        raise NotAllowed("a script has at most 4000 characters, and 100 lines")
    office = None
    answers = []
    for line in lines:
        office, answer = answered(office, line)
        answers.append(answer)
    return answers
