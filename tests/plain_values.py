"""The value machine once more, word for word: whole states are rewritten, and borrows are looked for (sections 36 to 42).

A value is a tuple (shape, tags, what, parts). Nothing here asks the package but for the graphs.
"""

from lendback.graph import build_graph
from tests.valid import copies

MOST = 24
NO_TAGS = frozenset()


class Stop(Exception):
    pass


def value(shape, what=None, parts=()):
    return (shape, NO_TAGS, what, tuple(parts))


DEAD = value("dead")


def rewritten(found, change):
    """A value in which `change` was made in all parts, the inner ones first."""
    shape, tags, what, parts = found
    return change((shape, tags, what, tuple([rewritten(part, change) for part in parts])))


def within(found, lent=True):
    """A value and all values within it; what a shared borrow contains is a copy, and not within."""
    rows = [found]
    if found[0] != "shared" and (lent or found[0] != "exclusive"):
        for part in found[3]:
            rows += within(part, lent)
    return rows


def tokens(rows):
    return [row[2] for row in rows if row[0] == "token"]


def tags(rows):
    return [loan for row in rows for loan in row[1]]


def without_tags(found):
    return rewritten(found, lambda row: (row[0], NO_TAGS) + row[2:])


def tree(found):
    shape, _, what, parts = found
    trees = tuple([tree(part) for part in parts])
    if shape in ("int", "bool"):
        return (shape, what)
    if shape in ("tuple", "record"):
        return (shape, trees) if shape == "tuple" else (shape, what, trees)
    return (shape,) + trees


def wrap(number):
    while not -2 ** 31 <= number < 2 ** 31:
        number += 2 ** 32 if number < 0 else -2 ** 32
    return number


OPERATIONS = {
    "+": lambda a, b: wrap(a + b), "-": lambda a, b: wrap(a - b), "*": lambda a, b: (a * b + 2 ** 31) % 2 ** 32 - 2 ** 31,
    "<": lambda a, b: a < b, "==": lambda a, b: a == b, "and": lambda a, b: a and b, "or": lambda a, b: a or b,
}


class PlainMachine:
    """A run; `run` gives the pair of section 36."""

    def __init__(self, program, arguments):
        self.program = program
        self.graphs = {row[0]: build_graph(program, row[0]) for row in program[1]}
        self.frames, self.limbo, self.printed, self.loans = [], [], [], 0
        kinds = [self.graphs["main"].kinds[name] for name in self.graphs["main"].parameters]
        self.begin("main", [value(kind[0], argument) for kind, argument in zip(kinds, arguments)])

    def run(self, limit):
        for _ in range(limit):
            try:
                found = self.step()
            except Stop as stop:
                return ("stopped", str(stop)), tuple(self.printed)
            if found is not None:
                return ("returned", tree(found)), tuple(self.printed)
        return ("running",), tuple(self.printed)

    # The state

    def begin(self, name, values):
        graph = self.graphs[name]
        self.frames.append({"graph": graph, "point": 0, "names": dict(zip(graph.parameters, values))})

    def names(self):
        return self.frames[-1]["names"]

    def change_all(self, change):
        for frame in self.frames:
            frame["names"] = {name: rewritten(found, change) for name, found in frame["names"].items()}
        self.limbo = [rewritten(found, change) for found in self.limbo]

    def everything(self):
        rows = [found for frame in self.frames for found in frame["names"].values()] + self.limbo
        return [part for row in rows for part in within(row)]

    def exists(self, loan):
        return any(row[2] == loan and row[0] == "token" or loan in row[1] for row in self.everything())

    def end(self, loan):
        if not self.exists(loan):
            return
        lent = [row[3][0] for row in self.everything() if row[:1] + row[2:3] == ("exclusive", loan)]
        if lent:
            inner = within(lent[0])
            for other in tokens(inner) + tags(inner):
                self.end(other)
            (lent,) = [row[3][0] for row in self.everything() if row[:1] + row[2:3] == ("exclusive", loan)]
        self.change_all(lambda row: DEAD if row[0] in ("exclusive", "shared") and row[2] == loan else row)
        if lent:
            self.change_all(lambda row: lent if row[0] == "token" and row[2] == loan else row)
        self.change_all(lambda row: (row[0], row[1] - {loan}) + row[2:])

    # Places, as lists of the indexes of parts

    def at(self, name, way):
        found = self.names()[name]
        for index in way:
            found = found[3][index]
        return found

    def replace_at(self, name, way, new):
        def changed(found, way):
            if not way:
                return new
            parts = list(found[3])
            parts[way[0]] = changed(parts[way[0]], way[1:])
            return found[:3] + (tuple(parts),)
        self.names()[name] = changed(self.names()[name], way)

    def follow(self, place):
        name, steps = place
        way = []
        for step in steps + (None,):
            if self.at(name, way)[0] == "token":
                self.end(self.at(name, way)[2])
            found = self.at(name, way)
            if step is not None:
                if found[0] == "dead":
                    raise Stop("dead")
                if found[0] == "none":
                    raise Stop("empty")
                if found[0] == "record":
                    way.append([field for field, _ in dict(self.program[0])[found[2]]].index(step))
                else:
                    way.append(step if found[0] == "tuple" else 0)
        return name, way

    def access(self, mode, name, way):
        inside = within(self.at(name, way), mode != "store")
        passed = [self.at(name, way[:count]) for count in range(len(way))]
        for loan in tokens(inside) + (tags(inside + passed) if mode != "read" else []):
            self.end(loan)

    def ask(self, found):
        if any(row[0] == "dead" for row in within(found)):
            raise Stop("dead")

    def reach(self, mode, place):
        """Follows a place, asks for dead values, and makes the access."""
        name, way = self.follow(place)
        self.ask(self.at(name, way))
        self.access(mode, name, way)
        return name, way

    def drop(self, found):
        self.limbo += [row for row in within(found, False) if row[0] in ("exclusive", "shared")]

    def take(self, temporary):
        return self.names().pop(temporary)

    # The instructions

    def step(self):
        frame = self.frames[-1]
        point = frame["point"]
        word, *rest = frame["graph"].points[point]
        successors = frame["graph"].successors[point]
        if successors:
            frame["point"] = successors[0]
        if word == "test" and not self.take(rest[0])[2]:
            frame["point"] = successors[1]
        elif word not in ("test", "jump"):
            return getattr(self, "do_" + word)(*rest)
        return None

    def do_stop(self):
        raise Stop("no value")

    def do_set(self, t, tree):
        self.names()[t] = value(tree[0], tree[1] if tree[0] in ("int", "bool") else None)

    def do_op(self, t, sign, left, right):
        left, right = self.take(left)[2], self.take(right)[2]
        self.names()[t] = value(self.frames[-1]["graph"].kinds[t][0], OPERATIONS[sign](left, right))

    def do_not(self, t, s):
        self.names()[t] = value("bool", not self.take(s)[2])

    def do_print(self, s):
        self.printed.append(self.take(s)[2])

    def do_make(self, t, shape, parts):
        for part in parts:
            self.ask(self.names()[part])
        if shape == "box" and len([row for row in self.everything() if row[0] == "box"]) >= MOST:
            raise Stop("full")
        named = () if shape in ("some", "box", "tuple") else (shape,)
        self.names()[t] = value("record" if named else shape, *(named or (None,)), [self.take(part) for part in parts])

    def do_unbox(self, t, s):
        self.names()[t] = self.take(s)[3][0]

    def do_copy(self, t, place):
        name, way = self.reach("read", place)
        assert copies(self.frames[-1]["graph"].kinds[t])
        self.names()[t] = without_tags(self.at(name, way))

    def do_move(self, t, place):
        name, way = self.reach("move", place)
        self.names()[t] = self.at(name, way)
        self.replace_at(name, way, DEAD)

    def do_borrow(self, t, mode, place):
        name, way = self.reach("write" if mode == "exclusive" else "read", place)
        lenders = [self.at(name, way[:count]) for count in range(len(way))]
        found = self.at(name, way)
        shared = [row[2] for row in lenders if row[0] == "shared"]
        if not shared:
            self.loans += 1
        loan = shared[0] if shared else self.loans
        if mode == "exclusive":
            self.replace_at(name, way, value("token", loan))
        elif not shared:
            self.replace_at(name, way, (found[0], found[1] | {loan}) + found[2:])
        self.names()[t] = value(mode, loan, [found if mode == "exclusive" else without_tags(found)])

    def do_is(self, t, place):
        name, way = self.follow(place)
        if self.at(name, way)[0] == "dead":
            raise Stop("dead")
        self.access("read", name, way)
        self.names()[t] = value("bool", self.at(name, way)[0] == "some")

    def do_swap(self, t, place, s):
        self.ask(self.names()[s])
        name, way = self.reach("write", place)
        old = self.at(name, way)
        self.replace_at(name, way, self.take(s))
        self.names()[t] = old

    def do_let(self, name, s):
        self.ask(self.names()[s])
        assert name not in self.names()
        self.names()[name] = self.take(s)

    def do_store(self, place, s):
        self.ask(self.names()[s])
        name, way = self.follow(place)
        self.access("store", name, way)
        self.drop(self.at(name, way))
        self.replace_at(name, way, self.take(s))

    def do_drop(self, name):
        self.follow((name, ()))
        self.access("store", name, [])
        self.drop(self.take(name))

    def do_call(self, t, name, parts):
        for part in parts:
            self.ask(self.names()[part])
        if len(self.frames) >= MOST:
            raise Stop("deep")
        self.frames[-1]["waiting"] = t
        self.begin(name, [self.take(part) for part in parts])

    def do_leave(self, s):
        self.ask(self.names()[s])
        found = self.take(s)
        assert not self.names()
        self.frames.pop()
        if not self.frames:
            return found
        self.names()[self.frames[-1]["waiting"]] = found
        return None
