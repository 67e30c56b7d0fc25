"""The fewest closings that hold a log, what holds, and the papers that so many closings do not ([11.2], [11.3])."""

from faremachines.closings import check_closings, moves_along, moves_of, without
from faremachines.errors import Missing, NotAllowed, TooLarge
from faremachines.machines import NONE, best_way, fare_of, way_fare
from faremachines.words import check_log

MAX_CLOSINGS = 4
MAX_TREE = 3000


def check_held(machine, log, c):
    """Raise NotAllowed if a log is none, or an integer is below 0."""
    check_log(machine[0], log)
    if c < 0:
        raise NotAllowed("a log is held at 0 or more")


def check_asked(machine, log, c, k):
    """Raise NotAllowed if a log is none, or an integer or a number of closings is out of range."""
    check_held(machine, log, c)
    if not 0 <= k <= MAX_CLOSINGS:
        raise NotAllowed("it is asked for 0 to 4 closings")


def holds(machine, log, c, closings):
    """Tell whether closings hold a log."""
    check_held(machine, log, c)
    check_closings(machine, closings)
    fare = fare_of(without(machine, closings), log)
    return fare == NONE or fare > c


def cheap_way(machine, log, c):
    """Return the best way of a log if it costs at most so much, otherwise None."""
    way = best_way(machine, log)
    return way if way is not None and way_fare(machine, log, way) <= c else None


def many_in(mask):
    """Return the number of the moves that a mask tells: an integer with a bit for each of them."""
    bits = f"{mask:b}"
    return bits.count("1")


class Held:
    """The search for closings that hold a log; the ways that were found stay, as each closings have to meet them.

    Moves are told by masks. A move that is not free is not to be closed any more.
    """

    def __init__(self, machine, log, c):
        """Begin the search for closings that hold a log."""
        self._machine = machine
        self._log = log
        self._c = c
        self._moves = moves_of(machine)
        self._found = {}

    def first_one(self, many):
        """Return the first closings with so many moves that hold the log, None if there are none.

        No closings with fewer moves hold it.
        """
        free = (1 << len(self._moves)) - 1
        if not self._can(0, many, free):
            return None
        closed = 0
        while many > 0:
            move = free & -free
            free -= move
            # Another move can be the next one only if others behind it do what is left to do.
            if self._can(closed | move, many - 1, free):
                closed = closed | move
                many -= 1
        return tuple(self._moves_in(closed))

    def _moves_in(self, mask):
        """Return the list of the moves that a mask tells."""
        return [move for at, move in enumerate(self._moves) if mask & (1 << at)]

    def _way_without(self, closed):
        """Return the mask of the moves of a cheap way without closed moves, NONE if there is no such way."""
        if closed not in self._found:
            way = cheap_way(without(self._machine, tuple(self._moves_in(closed))), self._log, self._c)
            moves = [] if way is None else moves_along(self._log, way)
            mask = sum([1 << self._moves.index(move) for move in moves])
            self._found[closed] = NONE if way is None else mask
        return self._found[closed]

    def _unmet(self, closed, many, free):
        """Return the list of the free moves of ways that closed moves do not meet; empty if these hold the log.

        Return None if some way, or more than so many that have no free move in common, cannot be met any more.
        """
        told = [way for way in list(self._found.values()) if way != NONE and way & closed == 0]
        ways = [way & free for way in told]
        taken = 0
        apart = 0
        for way in sorted(ways, key=many_in):
            if way & taken == 0:
                taken = taken | way
                apart += 1
        while apart <= many and 0 not in ways:
            way = self._way_without(closed | taken)
            if way == NONE:
                return ways
            ways.append(way & free)
            taken = taken | (way & free)
            apart += 1
        return None

    def _can(self, closed, many, free):
        """Tell whether closed moves, and at most so many free ones, hold the log."""
        ways = self._unmet(closed, many, free)
        if not ways:
            return ways is not None
        tried = min(ways, key=many_in)
        if many == 1:
            for way in ways:
                tried = tried & way
        while tried:
            move = tried & -tried
            tried -= move
            # What holds it with a move that was tried already has been looked for.
            free = free & ~move
            if self._can(closed | move, many - 1, free):
                return True
        return False


def fewest_closings(machine, log, c):
    """Return the fewest closings that hold a log."""
    check_held(machine, log, c)
    search = Held(machine, log, c)
    for many in range(MAX_CLOSINGS + 1):
        found = search.first_one(many)
        if found is not None:
            return found
    raise Missing("no closings with at most 4 moves hold the log")


class Tree:
    """The making of a ways paper; the ways of machines with the same moves closed are found once."""

    def __init__(self, machine, log, c):
        """Begin a paper for a log."""
        self._machine = machine
        self._log = log
        self._c = c
        self._known = {}
        self._many = 0

    def paper(self, closed, k):
        """Return the paper that so many closings do not hold the log, when some moves are closed, too."""
        if self._many == MAX_TREE:
            raise TooLarge("the tree would have more than 3000 ways")
        self._many += 1
        way = self._way_of(tuple(sorted(closed)))
        if way is None:
            raise Missing("so many closings hold the log")
        papers = []
        if k > 0:
            for move in moves_along(self._log, way):
                papers.append(self.paper(closed + [move], k - 1))
        return "tree", way, tuple(papers)

    def _way_of(self, closed):
        """Return a cheap way with some moves closed, or None."""
        if closed not in self._known:
            self._known[closed] = cheap_way(without(self._machine, closed), self._log, self._c)
        return self._known[closed]


def ways_paper(machine, log, c, k):
    """Return a right ways paper that so many closings do not hold a log."""
    check_asked(machine, log, c, k)
    return Tree(machine, log, c).paper([], k)


def is_cheap_way(machine, log, c, way):
    """Tell whether a tuple of integers is a way of a log that costs at most so much."""
    fare = way_fare(machine, log, way)
    return fare != NONE and fare <= c


def are_apart(machine, log, c, k, ways):
    """Tell whether some ways are more than so many, cheap, and no two of them have a move in common."""
    if len(ways) <= k or not all([is_cheap_way(machine, log, c, way) for way in ways]):
        return False
    moves = [move for way in ways for move in moves_along(log, way)]
    return len(set(moves)) == len(moves)


def is_tree(machine, log, c, k, paper):
    """Tell whether a value is a right ways paper of the form tree."""
    if len(paper) != 3 or paper[0] != "tree" or not is_cheap_way(machine, log, c, paper[1]):
        return False
    moves = moves_along(log, paper[1]) if k > 0 else []
    if len(paper[2]) != len(moves):
        return False
    parts = zip(moves, paper[2])
    return all([is_tree(without(machine, (move,)), log, c, k - 1, part) for move, part in parts])


def judge_ways(machine, log, c, k, paper):
    """Tell whether a value is a right ways paper that so many closings do not hold a log."""
    check_asked(machine, log, c, k)
    if len(paper) == 2 and paper[0] == "apart":
        return are_apart(machine, log, c, k, paper[1])
    return is_tree(machine, log, c, k, paper)
