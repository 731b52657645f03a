"""The table of section 31, as it is written there, and what it says of an instruction."""

from tests.valid import parts_with_steps

TABLE = """
| `copy t place` | the leaves of the place; crossed | read of the place | the leaves of the place to those of t | - |
| `move t place` | the leaves of the place | move of the place | the leaves of the place to those of t | the leaves of the place |
| `borrow t mode place` | crossed | read of the place if shared, write if exclusive | crossed to the leaf of t | - |
| `is t place` | crossed | read of the place | - | - |
| `make t shape parts` | the leaves of the parts | - | the leaves of each part to the leaves of t within it | the leaves of the parts |
| `let name s` | the leaves of s | - | the leaves of s to those of the variable | the leaves of s and of the variable |
| `store place s` | the leaves of s; crossed | store to the place | the leaves of s to those of the place | the leaves of s and of the place |
| `swap t place s` | crossed | write of the place | - | - |
| `call t name parts` | the leaves of the parts | - | all leaves of each source to all leaves of t | the leaves of the parts |
| `drop name` | - | store to the whole variable or temporary | - | its leaves |
| `leave s` | the leaves of s | - | - | the leaves of s |
"""
ROWS = {}
for line in TABLE.strip().splitlines():
    head, *cells = [cell.strip(" `") for cell in line.strip("|").split("|")]
    ROWS[head.split()[0]] = (head.split()[1:], cells)


def leaf_paths(kind):
    """The paths to the borrows of a kind, from the left to the right."""
    if kind[0] in ("shared", "exclusive"):
        return [()]
    inside = parts_with_steps((), kind) if kind[0] in ("tuple", "maybe") else []
    return [(step,) + path for step, part in inside for path in leaf_paths(part)]


class Effects:
    """What the table says of the instruction at a point, as lists: uses, access, moves and clears."""

    def __init__(self, program, graph, point):
        self.program, self.graph, self.instruction = program, graph, graph.points[point]
        names, cells = ROWS.get(self.instruction[0], ((), ("-",) * 4))
        self.roles = dict(zip(names, self.instruction[1:]))
        leaf_texts, access, moves, clears = cells
        self.uses = [leaf for text in leaf_texts.split("; ") for leaf in self.leaves(text)]
        self.access = self.accessed(access)
        self.moves = self.moved(moves)
        self.clears = self.leaves(clears)

    def leaves(self, text):
        """The leaves that a cell of the table names."""
        if text == "-":
            return []
        if text == "crossed":
            return self.crossed()
        if text == "its leaves":
            return self.within((self.roles["name"], ()))
        if text == "the leaves of the parts":
            return [leaf for part in self.roles["parts"] for leaf in self.within((part, ()))]
        words = text.replace("the leaves of ", "").split(" and of ")
        found = {"s": "s", "the place": "place", "the variable": "name", "t": "t"}
        places = [self.roles[found[word]] for word in words]
        return [leaf for place in places for leaf in self.within((place, ()) if isinstance(place, str) else place)]

    def kinds_passed(self, place):
        kinds = [self.graph.kinds[place[0]]]
        for step in place[1]:
            kinds.append(dict(parts_with_steps(self.program[0], kinds[-1]))[step])
        return kinds

    def within(self, place):
        return [(place[0], place[1] + path) for path in leaf_paths(self.kinds_passed(place)[-1])]

    def crossed(self):
        name, steps = self.roles["place"]
        kinds = self.kinds_passed((name, steps))[:-1]
        return [(name, steps[:at]) for at, kind in enumerate(kinds) if kind[0] in ("shared", "exclusive")]

    def accessed(self, text):
        if text == "-":
            return None
        if text == "store to the whole variable or temporary":
            return ("store", (self.roles["name"], ()))
        if "if exclusive" in text and self.roles["mode"] == "exclusive":
            return ("write", self.roles["place"])
        return (text.split()[0], self.roles["place"])

    def moved(self, text):
        if text == "-":
            return []
        if text == "crossed to the leaf of t":
            return [(leaf, (self.roles["t"], ())) for leaf in self.crossed()]
        if text == "all leaves of each source to all leaves of t":
            _, parameters, _, sources, _ = {row[0]: row for row in self.program[1]}[self.roles["name"]]
            parts = dict(zip([name for name, _ in parameters], self.roles["parts"]))
            origins = [leaf for source in sources for leaf in self.within((parts[source], ()))]
            return [(origin, leaf) for origin in origins for leaf in self.leaves("the leaves of t")]
        if text == "the leaves of each part to the leaves of t within it":
            steps = [("?",) if self.roles["shape"] == "some" else (at,) for at in range(len(self.roles["parts"]))]
            return [((part, path), (self.roles["t"], step + path)) for step, part in zip(steps, self.roles["parts"])
                    for path in leaf_paths(self.graph.kinds[part])]
        origin, target = text.split(" to those of ")
        return list(zip(self.leaves(origin), self.leaves("the leaves of " + target)))
