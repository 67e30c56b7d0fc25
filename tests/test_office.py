"""Tests of faremachines.office: machines with numbers and bounds, changes that are taken back, images ([9.1] to [9.3])."""

import random
import unittest

from faremachines.errors import BadForm, Broken, Missing, NotAllowed, TooLarge
from faremachines.machines import check_machine, fare_of
from faremachines.office import MAX_BOUND, MAX_IMAGE, MAX_KEPT, MAX_NUMBER, Office, load_office
from tests.samples import NONE, edited_log, random_machine

LETTERS = ("a", "b")
ONE = (LETTERS, (0,), ((((0, 2),), ()),), (1,))
BARE = (LETTERS, (NONE,), (((), ()),), (NONE,))
TWO = (LETTERS, (0, 2), ((((0, 3),), ((1, 1),)), (((1, 1),), ((0, 0), (1, 5)))), (NONE, 4))


def told(office):
    """Return all that an office tells of itself."""
    return office.image(), office.machines(), office.log(), office.fares(), office.changes()


def with_log(*letters, machines=(ONE,)):
    """Return an office with some machines and a log."""
    office = Office(LETTERS)
    for machine in machines:
        office.add(machine)
    for at, letter in enumerate(letters):
        office.edit(("put", at, letter))
    return office


def moved(machine, state, letter, after, fare):
    """Return a machine with another move."""
    rows = [[dict(row) for row in rows] for rows in machine[2]]
    row = rows[state][machine[0].index(letter)]
    row[after] = fare
    if fare == NONE:
        # Whether it was there or not.
        del row[after]
    moves = tuple([tuple([tuple(sorted(row.items())) for row in told_rows]) for told_rows in rows])
    return machine[0], machine[1], moves, machine[3]


def put_fare(machine, at, state, fare):
    """Return a machine with another first fare (1), or last fare (3)."""
    fares = machine[at][:state] + (fare,) + machine[at][state + 1:]
    return machine[:at] + (fares,) + machine[at + 1:]


class OfficeCase(unittest.TestCase):
    def raises(self, error, office, word, *arguments):
        """Check that a method raises an error, and changes nothing."""
        before = told(office)
        with self.assertRaises(error, msg=(word, arguments)) as caught:
            getattr(office, word)(*arguments)
        self.assertIs(type(caught.exception), error)
        self.assertEqual(told(office), before)
        return caught.exception


class OfficeTest(OfficeCase):
    def test_letters(self):
        for letters in ((), ("a", "a"), ("a", "b", "c", "d", "e"), ("A",), ("move",), ("abcdefghi",), ("",)):
            with self.assertRaises(NotAllowed):
                Office(letters)
        self.assertEqual(told(Office(("b", "a"))), ("office 1\nletters b a\nlog \n", [], (), [], 0))

    def test_the_example(self):
        office = Office(LETTERS)
        self.assertEqual(office.add(ONE), 1)
        self.assertIsNone(office.set_bound(1, 5))
        self.assertIsNone(office.edit(("put", 0, "a")))
        self.assertIsNone(office.edit(("put", 1, "a")))
        self.assertEqual((office.fares(), office.log()), ([(1, 5)], ("a", "a")))
        error = self.raises(Broken, office, "edit", ("put", 0, "b"))
        self.assertEqual((error.number, error.fare), (1, NONE))
        self.assertIsNone(office.set_move(1, 0, "b", 0, 0))
        self.assertIsNone(office.edit(("put", 0, "b")))

    def test_add(self):
        office = Office(LETTERS)
        for number, machine in enumerate((ONE, TWO, ONE, BARE, BARE), 1):
            self.assertEqual(office.add(machine), number)
        for machine in (
            (("b", "a"),) + ONE[1:], (("a",), (0,), ((((0, 2),),),), (1,)), (("a", "c"),) + ONE[1:],
            ONE[:1] + ((100,),) + ONE[2:], ONE[:1] + ((),) + ONE[2:], ONE[:3] + ((1, 1),),
            ONE[:2] + (((((0, 2), (0, 3)), ()),),) + ONE[3:], ONE[:2] + (((((1, 2),), ()),),) + ONE[3:],
            (LETTERS, (0,) * 9, (((), ()),) * 9, (0,) * 9), ((),) + ONE[1:],
        ):
            self.raises(NotAllowed, office, "add", machine)
        self.assertEqual(office.add(TWO), 6)
        self.assertEqual([row[0] for row in office.machines()], [1, 2, 3, 4, 5, 6])
        self.raises(TooLarge, office, "add", ONE)
        # NotAllowed is due ahead of TooLarge.
        self.raises(NotAllowed, office, "add", (("a", "c"),) + ONE[1:])
        office.drop(3)
        self.assertEqual(office.add(ONE), 7)
        self.assertEqual([row[0] for row in office.machines()], [1, 2, 4, 5, 6, 7])
        self.raises(TooLarge, office, "add", ONE)

    def test_a_number_is_not_given_again_unless_it_is_taken_back(self):
        office = Office(LETTERS)
        self.assertEqual((office.add(ONE), office.add(TWO)), (1, 2))
        office.drop(2)
        self.assertEqual(office.add(TWO), 3)
        office.undo()
        self.assertEqual(office.add(ONE), 3)
        office.undo()
        office.undo()
        self.assertEqual(office.add(BARE), 3)
        for left in (2, 1, 0):
            office.undo()
            self.assertEqual(office.changes(), left)
        self.assertEqual(office.machines(), [])
        self.assertEqual(office.add(BARE), 1)

    def test_the_greatest_number(self):
        text = "office {}\nletters a\nlog \n"
        one = (("a",), (0,), ((((0, 2),),),), (1,))
        office = load_office(text.format(999999))
        self.assertEqual(office.add(one), MAX_NUMBER)
        self.raises(TooLarge, office, "add", one)
        self.assertTrue(office.image().startswith("office 1000000\nletters a\nmachine 999999 none\n"))
        office.drop(999999)
        self.raises(TooLarge, office, "add", one)
        self.assertEqual(load_office(office.image()).image(), text.format(1000000))
        office.undo()
        office.undo()
        self.assertEqual(office.add(one), MAX_NUMBER)

    def test_missing_is_due_ahead_of_all_else(self):
        office = with_log("a")
        office.add(TWO)
        office.drop(1)
        for number in (1, 3, 0, -1, 10 ** 9):
            for word, arguments in (
                ("drop", ()), ("set_bound", (5,)), ("set_bound", (-2,)), ("set_first", (0, 0)), ("set_first", (9, 100)),
                ("set_last", (0, 0)), ("set_last", (9, 100)), ("set_move", (0, "a", 0, 0)), ("set_move", (9, "x", 9, 100)),
            ):
                self.raises(Missing, office, word, number, *arguments)

    def test_set_fares(self):
        for word, at in (("set_first", 1), ("set_last", 3)):
            office = with_log(machines=(ONE, TWO))
            for state, fare in ((0, 7), (1, 99), (0, NONE), (1, 0), (1, NONE)):
                expected = put_fare(office.machines()[1][1], at, state, fare)
                self.assertIsNone(getattr(office, word)(2, state, fare))
                self.assertEqual(office.machines(), [(1, ONE, NONE), (2, expected, NONE)])
            for state, fare in ((2, 0), (-1, 0), (8, NONE), (0, 100), (0, -2), (1, 1000)):
                self.raises(NotAllowed, office, word, 2, state, fare)

    def test_set_move(self):
        office = with_log(machines=(TWO,))
        for state, letter, after, fare in (
            (0, "a", 1, 5), (0, "a", 0, 0), (0, "a", 0, NONE), (1, "b", 0, 99), (1, "b", 1, NONE), (1, "b", 1, NONE),
            (1, "b", 0, NONE), (1, "b", 1, 3), (1, "b", 0, 2), (0, "b", 0, 1),
        ):
            expected = moved(office.machines()[0][1], state, letter, after, fare)
            self.assertIsNone(office.set_move(1, state, letter, after, fare))
            self.assertEqual(office.machines(), [(1, expected, NONE)])
            check_machine(office.machines()[0][1])
        for arguments in (
            (2, "a", 0, 0), (0, "a", 2, 0), (-1, "a", 0, 0), (0, "a", -1, 0), (0, "c", 0, 0), (0, "", 0, 0),
            (0, "a", 0, 100), (0, "a", 0, -2), (8, "a", 8, NONE),
        ):
            self.raises(NotAllowed, office, "set_move", 1, *arguments)

    def test_edits(self):
        office = with_log("a", "b")
        for edit in (("put", 0, "b"), ("put", 3, "a"), ("change", 1, "a"), ("cut", 0), ("change", 2, "b"), ("cut", 2)):
            expected = edited_log(office.log(), edit)
            self.assertIsNone(office.edit(edit))
            self.assertEqual(office.log(), expected)
        for edit in (
            ("put", 3, "a"), ("put", -1, "a"), ("put", 0, "c"), ("put", 0), ("cut", 2), ("cut", -1), ("cut", 0, "a"),
            ("change", 2, "a"), ("change", -1, "a"), ("change", 0), ("change", 0, ""), ("turn", 0, "a"), ("", 0),
        ):
            self.raises(NotAllowed, office, "edit", edit)

    def test_at_most_400_letters(self):
        office = load_office("office 1\nletters a b\nlog " + "a " * 399 + "b\n")
        self.assertEqual(len(office.log()), 400)
        self.raises(NotAllowed, office, "edit", ("put", 0, "a"))
        office.edit(("change", 399, "a"))
        office.edit(("cut", 0))
        office.edit(("put", 399, "b"))
        self.assertEqual(office.log(), ("a",) * 399 + ("b",))


class BoundTest(OfficeCase):
    def test_bounds(self):
        self.assertEqual((MAX_BOUND, MAX_KEPT), (99999, 6))
        office = with_log("a", "a")
        for bound in (99999, 5, NONE, 6, NONE, NONE):
            self.assertIsNone(office.set_bound(1, bound))
            self.assertEqual(office.machines(), [(1, ONE, bound)])
        for bound in (100000, -2, -99):
            self.raises(NotAllowed, office, "set_bound", 1, bound)
        office.set_bound(1, 5)
        for bound in (4, 0):
            error = self.raises(Broken, office, "set_bound", 1, bound)
            self.assertEqual((error.number, error.fare), (1, 5))
        office.set_bound(1, NONE)
        office.edit(("put", 0, "b"))
        for bound in (0, 99999):
            error = self.raises(Broken, office, "set_bound", 1, bound)
            self.assertEqual((error.number, error.fare), (1, NONE))
        # Behind all else.
        self.raises(NotAllowed, office, "set_bound", 1, 100000)

    def test_each_kind_of_change(self):
        office = with_log("a", "b", "a", machines=(TWO,))
        self.assertEqual(office.fares(), [(1, 9)])
        office.set_bound(1, 10)
        for word, arguments, fare in (
            ("set_first", (1, 0, 2), 11), ("set_first", (1, 0, NONE), 13), ("set_last", (1, 1, 6), 11),
            ("set_last", (1, 1, NONE), NONE), ("set_move", (1, 0, "b", 1, 3), 11), ("set_move", (1, 0, "b", 1, NONE), 13),
            ("edit", (("put", 0, "a"),), 12), ("edit", (("change", 1, "a"),), 9), ("edit", (("cut", 2),), 8),
        ):
            if fare == NONE or fare > 10:
                error = self.raises(Broken, office, word, *arguments)
                self.assertEqual((error.number, error.fare), (1, fare))
            else:
                getattr(office, word)(*arguments)
                self.assertEqual(office.fares(), [(1, fare)])
                office.undo()
        # Just kept.
        office.set_first(1, 0, 1)
        self.assertEqual(office.fares(), [(1, 10)])
        self.assertEqual(self.raises(Broken, office, "set_bound", 1, 9).fare, 10)

    def test_errors_that_are_due_ahead_of_broken(self):
        office = with_log("a")
        office.set_bound(1, 3)
        for word, arguments in (
            ("set_first", (1, 0, 100)), ("set_first", (1, 1, NONE)), ("set_last", (1, 0, -2)), ("edit", (("put", 5, "b"),)),
            ("set_move", (1, 0, "a", 1, NONE)), ("set_move", (1, 0, "c", 0, NONE)),
        ):
            self.raises(NotAllowed, office, word, *arguments)

    def test_the_least_number_of_several(self):
        office = with_log("a", machines=(ONE, ONE, TWO))
        for bounds, edit, number, fare in (
            ((5, 5, 7), ("put", 0, "a"), 3, 8), ((5, 4, 7), ("put", 0, "a"), 2, 5), ((5, 4, 8), ("put", 1, "a"), 2, 5),
            ((4, 4, 7), ("put", 0, "a"), 1, 5), ((NONE, 4, 7), ("put", 0, "b"), 2, NONE), ((3, 3, 7), ("change", 0, "b"), 1, NONE),
            ((NONE, NONE, 7), ("put", 0, "a"), 3, 8),
        ):
            for at, bound in enumerate(bounds):
                office.set_bound(at + 1, bound)
            error = self.raises(Broken, office, "edit", edit)
            self.assertEqual((error.number, error.fare), (number, fare))
        office.drop(2)
        self.assertEqual(self.raises(Broken, office, "edit", ("put", 0, "a")).number, 3)
        office.set_bound(3, 20)
        office.edit(("put", 0, "b"))
        self.assertEqual(office.fares(), [(1, NONE), (3, fare_of(TWO, ("b", "a")))])

    def test_other_machines_may_break_what_they_like(self):
        office = with_log("a", machines=(ONE, ONE))
        office.set_bound(1, 3)
        office.set_move(2, 0, "a", 0, NONE)
        office.set_first(2, 0, 99)
        self.assertEqual(office.fares(), [(1, 3), (2, NONE)])
        self.assertEqual(self.raises(Broken, office, "set_first", 1, 0, 1).fare, 4)
        office.drop(1)
        office.undo()
        self.assertEqual(self.raises(Broken, office, "set_first", 1, 0, 1).fare, 4)


class UndoTest(OfficeCase):
    def test_each_kind_of_change_down_to_the_beginning(self):
        office = Office(LETTERS)
        states = [told(office)]
        for word, arguments in (
            ("add", (ONE,)), ("add", (TWO,)), ("set_bound", (1, 50)), ("edit", (("put", 0, "a"),)), ("set_first", (1, 0, 4)),
            ("set_last", (1, 0, NONE)), ("set_bound", (1, NONE)), ("set_last", (1, 0, NONE)), ("set_move", (2, 0, "a", 1, 9)),
            ("edit", (("change", 0, "b"),)), ("drop", (1,)), ("edit", (("cut", 0),)), ("add", (BARE,)), ("drop", (2,)),
            ("set_move", (3, 0, "b", 0, NONE)),
        ):
            try:
                getattr(office, word)(*arguments)
            except Broken:
                self.assertEqual((word, arguments), ("set_last", (1, 0, NONE)))
                self.assertEqual(told(office), states[-1])
                continue
            self.assertEqual(office.changes(), len(states))
            states.append(told(office))
        while len(states) > 1:
            self.assertEqual(told(office), states.pop())
            self.assertIsNone(office.undo())
        self.assertEqual(told(office), states[0])
        for _ in range(2):
            self.raises(Missing, office, "undo")

    def test_a_change_that_leaves_all_as_it_is_counts(self):
        office = with_log("a")
        office.set_bound(1, NONE)
        office.edit(("change", 0, "a"))
        self.assertEqual(office.changes(), 4)
        office.undo()
        office.undo()
        self.assertEqual((office.changes(), office.log()), (2, ("a",)))

    def test_copies_go_their_own_ways(self):
        office = with_log("a", "b", machines=(TWO, ONE))
        before = told(office)
        other = office.copy()
        self.assertIsInstance(other, Office)
        self.assertEqual(told(other), before)
        other.edit(("cut", 0))
        other.set_first(1, 0, 9)
        self.assertEqual(told(office), before)
        behind = told(other)
        office.undo()
        office.undo()
        office.undo()
        self.assertEqual((office.add(BARE), other.add(BARE)), (2, 3))
        other.undo()
        self.assertEqual(told(other), behind)
        # The same changes are in force: the copy can take back all of them.
        for _ in range(6):
            other.undo()
        self.assertEqual((other.changes(), other.machines()), (0, []))
        self.assertEqual(len(office.machines()), 2)

    def test_lists_that_are_returned_and_changed(self):
        office = with_log("a", machines=(ONE, TWO))
        before = told(office)
        for word in ("machines", "fares"):
            found = getattr(office, word)()
            self.assertIsInstance(found, list)
            found.reverse()
            found.append(5)
            found.clear()
        self.assertEqual(told(office), before)

    def test_random_changes(self):
        source = random.Random(730)
        refused = {"Broken": 0, "NotAllowed": 0, "Missing": 0, "TooLarge": 0, "done": 0}
        for _ in range(30):
            office, states = Office(LETTERS), []
            for _ in range(80):
                before = told(office)
                number, state, fare = source.randrange(1, 5), source.randrange(3), source.randrange(-1, 6)
                word, arguments = source.choice([
                    ("add", (random_machine(source, source.randrange(1, 4), 2, 0.8),)), ("drop", (number,)),
                    ("set_bound", (number, source.choice([NONE, 3, 10, 20, 60]))), ("set_first", (number, state, fare)),
                    ("set_last", (number, state, fare)), ("set_move", (number, state, "a", source.randrange(3), fare)),
                    ("edit", (("put", source.randrange(4), source.choice(LETTERS)),)), ("edit", (("cut", 0),)),
                    ("edit", (("change", 1, "b"),)), ("edit", (("put", 0, "a"),)), ("edit", (("put", 0, "b"),)),
                ])
                try:
                    getattr(office, word)(*arguments)
                except (Broken, NotAllowed, Missing, TooLarge) as error:
                    self.assertEqual(told(office), before)
                    refused[type(error).__name__] += 1
                    continue
                refused["done"] += 1
                states.append(before)
                for known, machine, bound in office.machines():
                    fare = fare_of(machine, office.log())
                    self.assertTrue(bound == NONE or 0 <= fare <= bound)
                    self.assertIn((known, fare), office.fares())
                self.assertEqual(told(load_office(office.image()))[:4], told(office)[:4])
            while states:
                office.undo()
                self.assertEqual(told(office), states.pop())
        self.assertGreater(min(refused.values()), 5, refused)


IMAGE = (
    "office 12\nletters a bb\nmachine 2 9\nstate 0 none\nstate none 3\nmove 0 a 0 1\nmove 0 bb 1 0\nmove 1 a 1 2\n"
    "machine 11 none\nstate none none\nlog a bb a\n"
)


class ImageTest(unittest.TestCase):
    def line_of(self, text):
        """Return the line with which a text cannot be read, or None."""
        try:
            load_office(text)
        except BadForm as error:
            return error.line
        return None

    def test_images_are_read_again(self):
        office = load_office(IMAGE)
        self.assertEqual((office.image(), office.changes(), office.log()), (IMAGE, 0, ("a", "bb", "a")))
        self.assertEqual([(number, bound) for number, _, bound in office.machines()], [(2, 9), (11, NONE)])
        self.assertEqual(office.fares(), [(2, 6), (11, NONE)])
        with self.assertRaises(Missing):
            office.undo()
        self.assertEqual(office.add(office.machines()[1][1]), 12)
        office.undo()
        self.assertEqual(office.image(), IMAGE)

    def test_each_line_left_out_twice_or_exchanged(self):
        # Without a bound, so that the log may cost what it likes.
        lines = IMAGE.replace("machine 2 9", "machine 2 none").split("\n")[:-1]
        out = (1, 2, 3, 6, 6, None, None, None, 9, 10, 11)
        twice = (2, 3, 4, None, None, 7, 8, 9, 10, None, 12)
        turned = (1, 2, 3, None, 6, 7, 8, 9, 9, 10)
        self.assertEqual(len(lines), 11)
        for at, line in enumerate(lines):
            text = "\n".join(lines[:at] + lines[at + 1:]) + "\n"
            self.assertEqual(self.line_of(text), out[at], text)
            text = "\n".join(lines[:at] + [line] + lines[at:]) + "\n"
            self.assertEqual(self.line_of(text), twice[at], text)
            if at + 1 < len(lines):
                text = "\n".join(lines[:at] + [lines[at + 1], line] + lines[at + 2:]) + "\n"
                self.assertEqual(self.line_of(text), turned[at], text)

    def test_spoilt_words_and_numbers(self):
        for old, new, line in (
            ("office 12", "office  12", 1), ("office 12", "Office 12", 1), ("office 12", "office 012", 1),
            ("office 12", "office 0", 1), ("office 12", "office 1000001", 1), ("office 12", "office 11", 9),
            ("office 12", "office 2", 3), ("office 12", "office", 1), ("office 12", "office 12 ", 1),
            ("office 12", "office none", 1), ("office 12", "office -1", 1), ("office 12", " office 12", 1),
            ("letters a bb", "letters a  bb", 2), ("letters a bb", "letters a a", 2), ("letters a bb", "letter a bb", 2),
            ("letters a bb", "letters", 2), ("letters a bb", "letters ", 2), ("letters a bb", "letters a move", 2),
            ("letters a bb", "letters bb a", 7), ("letters a bb", "letters a bc", 7),
            ("machine 2 9", "machine 02 9", 3), ("machine 2 9", "machine 0 9", 3), ("machine 2 9", "machine 2 09", 3),
            ("machine 2 9", "machine 2 100000", 3), ("machine 2 9", "machine 2 -1", 3), ("machine 2 9", "machine 2", 3),
            ("machine 2 9", "machine 2 9 9", 3), ("machine 2 9", "machine none 9", 3), ("machine 2 9", "machine 2  9", 3),
            ("machine 2 9", "machine 11 9", 9), ("machine 2 9", "machine 12 9", 3), ("machine 2 9", "Machine 2 9", 3),
            ("machine 11 none", "machine 2 none", 9), ("machine 11 none", "machine 1 none", 9),
            ("machine 11 none", "machine 12 none", 9), ("machine 11 none", "machine 11 nine", 9),
            ("state 0 none", "state 00 none", 4), ("state 0 none", "state 100 none", 4), ("state 0 none", "state 0", 4),
            ("state none 3", "state none  3", 5), ("move 0 a 0 1", "move 0 a 0 01", 6), ("move 0 a 0 1", "move 0 a 2 1", 6),
            ("move 0 a 0 1", "move 0 c 0 1", 6), ("move 0 a 0 1", "move 0 bb 2 1", 6), ("move 0 a 0 1", "move 1 a 0 1", 7),
            ("move 0 a 0 1", "move 0 a 0 100", 6), ("move 1 a 1 2", "move 1 a 1 none", 8),
            ("log a bb a", "log", 11), ("log a bb a", "log  a bb a", 11), ("log a bb a", "log a bb a ", 11),
            ("log a bb a", "log a  bb a", 11), ("log a bb a", "log a c a", 11), ("log a bb a", "Log a bb a", 11),
            ("log a bb a", "log a bb a\n", 12), ("log a bb a\n", "log a bb a\n\n", 12), ("log a bb a\n", "log a bb a", 11),
            ("log a bb a\n", "", 11), ("log a bb a\n", "log a bb a\nlog a bb a\n", 12),
        ):
            self.assertEqual(IMAGE.count(old), 1, old)
            self.assertEqual(self.line_of(IMAGE.replace(old, new)), line, (old, new))

    def test_short_texts(self):
        for text, line in (
            ("", 1), ("\n", 1), ("office 1", 1), ("office 1\n", 2), ("office 1\nletters a", 2), ("office 1\nletters a\n", 3),
            ("office 1\nletters a\nlog ", 3), ("office 1\nletters a\nlog \n", None), ("office 1\nletters a\nlog\n", 3),
            ("office 2\nletters a\nmachine 1 none\n", 4), ("office 2\nletters a\nmachine 1 none\nlog \n", 4),
            ("office 2\nletters a\nmachine 1 none\nstate 0 0\n", 5), ("office 1\nletters a\nmachine 1 none\nstate 0 0\nlog \n", 3),
            ("office 1\n\nletters a\nlog \n", 2), ("\noffice 1\nletters a\nlog \n", 1), ("office 1\nletters a\nlog \nx", 4),
        ):
            self.assertEqual(self.line_of(text), line, text)

    def test_the_empty_log(self):
        image = Office(("a",)).image()
        self.assertEqual(image, "office 1\nletters a\nlog \n")
        self.assertEqual(load_office(image).image(), image)

    def test_seven_machines_and_nine_states(self):
        machines = "".join([f"machine {number} none\nstate 0 0\n" for number in range(1, 8)])
        text = f"office 9\nletters a\n{machines}log \n"
        self.assertEqual(self.line_of(text), 15)
        self.assertIsNone(self.line_of(text.replace("machine 7 none\nstate 0 0\n", "")))
        states = "office 9\nletters a\nmachine 1 none\n" + "state 0 0\n" * 9 + "log \n"
        self.assertEqual(self.line_of(states), 12)
        self.assertIsNone(self.line_of(states.replace("state 0 0\n", "", 1)))

    def test_long_texts(self):
        self.assertEqual(MAX_IMAGE, 40000)
        start = "office 1\nletters a\nlog "
        for many, line in ((400, None), (401, 3)):
            self.assertEqual(self.line_of(start + " ".join(["a"] * many) + "\n"), line)
        for length, line in ((40000, 3), (40001, 0), (80000, 0)):
            text = start + "a" * (length - len(start) - 1) + "\n"
            self.assertEqual((len(text), self.line_of(text)), (length, line))
            self.assertEqual(self.line_of("x" * length), line and 1)
        # The largest offices have shorter images.
        letters = ("aaaaaaaa", "bbbbbbbb", "cccccccc", "dddddddd")
        full = (letters, (10,) * 8, ((tuple([(state, 99) for state in range(8)]),) * 4,) * 8, (99,) * 8)
        office = load_office("office 999990\nletters " + " ".join(letters) + "\nlog " + " ".join(letters * 100) + "\n")
        for _ in range(6):
            office.set_bound(office.add(full), 99999)
        self.assertLess(len(office.image()), 40000)
        self.assertEqual(told(load_office(office.image()))[:4], told(office)[:4])

    def test_bounds_that_the_log_does_not_keep(self):
        for old, new, number, fare in (
            ("machine 2 9", "machine 2 5", 2, 6), ("machine 2 9", "machine 2 0", 2, 6), ("log a bb a", "log bb bb", 2, NONE),
            ("machine 11 none", "machine 11 99999", 11, NONE), ("log a bb a", "log ", 2, NONE),
            ("machine 11 none\nstate none none", "machine 11 4\nstate 2 3", 11, NONE),
        ):
            with self.assertRaises(Broken, msg=new) as caught:
                load_office(IMAGE.replace(old, new))
            self.assertEqual((caught.exception.number, caught.exception.fare), (number, fare))
        both = IMAGE.replace("machine 2 9", "machine 2 5").replace("machine 11 none", "machine 11 0")
        with self.assertRaises(Broken) as caught:
            load_office(both)
        self.assertEqual((caught.exception.number, caught.exception.fare), (2, 6))
        self.assertEqual(load_office(IMAGE.replace("machine 2 9", "machine 2 6")).fares()[0], (2, 6))
        # A line that cannot stand is told first.
        self.assertEqual(self.line_of(both + "x\n"), 12)
