"""Marks: what a path through a graph leaves behind for the instructions that follow on it."""

from lendback.effects import access, clears, conflicts, moves, place_of, uses
from lendback.places import crossed, crosses_shared, is_prefix, overlap, place_leaves

STORING_WORDS = ("let", "store", "drop")


def first_marks(program, graph):
    """The list of the marks at point 0."""
    places = [(name, ()) for name in graph.parameters]
    return [("loan", leaf, leaf[0], "alive") for place in places
            for leaf in place_leaves(place, records=program[0], kinds=graph.kinds)]


def pass_mark(program, graph, point, mark):
    """The list of the marks that a mark becomes when the instruction at a point is passed."""
    return MarkRules(program, graph).passed(point, mark)


def new_marks(program, graph, point):
    """The list of the marks that the instruction at a point itself gives."""
    instruction = graph.points[point]
    if instruction[0] == "move":
        return [("moved", instruction[2])]
    if instruction[0] == "borrow" and not crosses_shared(instruction[3], records=program[0], kinds=graph.kinds):
        return [("loan", (instruction[1], ()), point, "alive")]
    return []


def problems(program, graph, point, mark):
    """The problem that a path that ends at a point shows because of a mark, or None."""
    return MarkRules(program, graph).problem(point, mark)


class Passage:
    """What an instruction does, as far as it concerns marks."""

    def __init__(self, program, graph, point):
        self.instruction = graph.points[point]
        self.access = access(program, graph, point)
        self.used = {leaf: True for leaf in uses(program, graph, point)}
        self.cleared = {leaf: True for leaf in clears(program, graph, point)}
        self.targets = {}
        for origin, target in moves(program, graph, point):
            self.targets.setdefault(origin, []).append(target)

    def word(self):
        """The first word of the instruction."""
        return self.instruction[0]

    def leaves_behind(self, leaf):
        """The leaves at which a mark of a leaf is behind the instruction."""
        staying = [] if leaf in self.cleared else [leaf]
        return staying + self.targets.get(leaf, [])

    def keeps_moved(self, place):
        """True if a place whose value was moved gets no new value, and its variable does not end or begin."""
        if self.word() in ("let", "drop"):
            return self.instruction[1] != place[0]
        return self.word() != "store" or not is_prefix(self.instruction[1], place)

    def needs(self, moved):
        """True if the instruction needs a value that was moved out of a place."""
        place = place_of(self.instruction)
        if place is None:
            return False
        if self.word() == "store":
            return place != moved and is_prefix(moved, place)
        return overlap(place, moved)


class Lent:
    """The loan that an instruction makes, with the leaf that its place crosses (or None)."""

    def __init__(self, program, graph, point):
        _, _, mode, place = graph.points[point]
        self.loan = (mode, place)
        self.leaf = crossed(place, records=program[0], kinds=graph.kinds)
        self.crossing = None if self.leaf is None else len(self.leaf[1])


class MarkRules:
    """How marks change in a graph. What was found out for one question is kept for the next ones."""

    def __init__(self, program, graph):
        self.whole = program
        self.graph = graph
        self.passages = {}
        self.lent = {}

    def passage(self, point):
        """What the instruction at a point does."""
        if point not in self.passages:
            self.passages[point] = Passage(self.whole, self.graph, point)
        return self.passages[point]

    def lent_at(self, point):
        """The loan that the instruction at a point makes."""
        if point not in self.lent:
            self.lent[point] = Lent(self.whole, self.graph, point)
        return self.lent[point]

    def passed(self, point, mark):
        """The list of the marks that a mark becomes when the instruction at a point is passed."""
        passage = self.passage(point)
        if mark[0] == "moved":
            return [mark] if passage.keeps_moved(mark[1]) else []
        _, leaf, loan, state = mark
        # Nothing happens to the loan of a parameter: what it lends belongs to the caller.
        if state == "alive" and not isinstance(loan, str):
            state = self.state_behind(passage, self.lent_at(loan))
        return [("loan", target, loan, state) for target in passage.leaves_behind(leaf)]

    def state_behind(self, passage, lent):
        """The state of a living loan of an instruction, when another instruction was passed."""
        if passage.access is not None and conflicts(passage.access, lent.loan, lent.crossing):
            return "dead"
        # The way to the lent place is lost: from now on it is another place that has the same name.
        if passage.word() in STORING_WORDS and lent.leaf in passage.cleared:
            return "loose"
        return "alive"

    def problem(self, point, mark):
        """The problem that a path that ends at a point shows because of a mark, or None."""
        passage = self.passage(point)
        if mark[0] == "moved":
            return "moved" if passage.needs(mark[1]) else None
        _, leaf, loan, state = mark
        if leaf not in passage.used:
            return None
        if state == "dead":
            return "dead"
        if passage.word() == "leave" and isinstance(loan, str) and loan not in self.graph.sources:
            return "escape"
        return None
