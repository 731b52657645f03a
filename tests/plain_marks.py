"""Sections 32 to 35 once more: whole sets of marks go along whole paths."""

from lendback.graph import build_graph
from tests.table import Effects


class PlainMarks:
    """The marks in one function, by the table of section 31."""

    def __init__(self, program, name):
        self.program, self.graph = program, build_graph(program, name)
        self.effects = [Effects(program, self.graph, point) for point in range(len(self.graph.points))]

    def first(self):
        places = [(name, ()) for name in self.graph.parameters]
        return {("loan", leaf, leaf[0], "alive") for place in places for leaf in self.effects[0].within(place)}

    def crossed(self, loan):
        return self.effects[loan].crossed()

    def lends(self, point):
        """Whether a `borrow` makes a loan, because it goes through no shared borrow."""
        return [] == [leaf for leaf in self.crossed(point) if self.effects[point].kinds_passed(leaf)[-1][0] == "shared"]

    def conflict(self, access, loan):
        if access is None or isinstance(loan, str):
            return False
        mode, (p, p_steps) = access
        borrow, (q, q_steps) = self.graph.points[loan][2:]
        common = min(len(p_steps), len(q_steps))
        overlapping = p == q and p_steps[:common] == q_steps[:common]
        behind = [leaf for leaf in self.crossed(loan) if len(p_steps) <= len(leaf[1])]
        spared = mode == "read" and borrow == "shared" or mode == "store" and behind != []
        return overlapping and not spared

    def passed(self, point, mark):
        """What a mark becomes."""
        effects, instruction = self.effects[point], self.graph.points[point]
        word = instruction[0]
        if mark[0] == "moved":
            variable, steps = mark[1]
            gone = word in ("let", "drop") and instruction[1] == variable
            if word == "store":
                gone = instruction[1] in [(variable, steps[:count]) for count in range(len(steps) + 1)]
            return set() if gone else {mark}
        _, leaf, loan, state = mark
        if state == "alive" and self.conflict(effects.access, loan):
            state = "dead"
        elif state == "alive" and word in ("let", "store", "drop") and not isinstance(loan, str):
            state = "loose" if set(self.crossed(loan)) & set(effects.clears) else "alive"
        targets = [target for origin, target in effects.moves if origin == leaf]
        return {("loan", target, loan, state) for target in targets + [leaf] * (leaf not in effects.clears)}

    def given(self, point):
        """The marks that an instruction gives."""
        word, *rest = self.graph.points[point]
        if word == "move":
            return {("moved", rest[1])}
        return {("loan", (rest[0], ()), point, "alive")} if word == "borrow" and self.lends(point) else set()

    def behind(self, point, marks):
        return frozenset(self.given(point).union(*[self.passed(point, mark) for mark in marks]))

    def shown(self, point, mark):
        """The problems that a path shows because of a mark at its last point."""
        effects, (word, *rest) = self.effects[point], self.graph.points[point]
        found = set()
        if mark[0] == "moved":
            name, steps = mark[1]
            place = {"copy": 1, "move": 1, "borrow": 2, "is": 1, "swap": 1, "store": 0}.get(word)
            if place is not None and rest[place][0] == name:
                other = rest[place][1]
                if other[:len(steps)] == steps and (word != "store" or other != steps):
                    found.add("moved")
                if word != "store" and steps[:len(other)] == other:
                    found.add("moved")
        elif mark[1] in effects.uses:
            if mark[3] == "dead":
                found.add("dead")
            if word == "leave" and isinstance(mark[2], str) and mark[2] not in self.graph.sources:
                found.add("escape")
        return found

    def shows(self, path):
        """The problems that a path of points shows; None, if it is no path."""
        marks = frozenset(self.first())
        if path[0] != 0:
            return None
        for point, successor in zip(path, path[1:]):
            if successor not in self.graph.successors[point]:
                return None
            marks = self.behind(point, marks)
        return {reason for mark in marks for reason in self.shown(path[-1], mark)}

    def least(self, most_states):
        """How many points the shortest path with a problem has; 0, if there is none, None, if that takes too long."""
        rows, seen, count = [(0, frozenset(self.first()))], set(), 1
        while rows:
            if any(self.shown(point, mark) for point, marks in rows for mark in marks):
                return count
            seen.update(rows)
            if len(seen) > most_states:
                return None
            rows = {(successor, self.behind(point, marks)) for point, marks in rows
                    for successor in self.graph.successors[point]} - seen
            count += 1
        return 0
