"""The graph of a function once more: rows with labels, whose points are found at the end (sections 26 to 28)."""

from tests.valid import BOOL, INT, UNIT, copies, parts_with_steps


def lowered(program, name):
    """The points, the successors and the kinds of the graph of a function."""
    rows = Rows(program, name)
    points, labels = [], {}
    for row in rows.rows:
        if isinstance(row, int):
            labels[row] = len(points)
        else:
            points.append(row)
    successors = [
        (at + 1,) if targets is None else tuple([labels[label] for label in targets])
        for at, (_, targets) in enumerate(points)
    ]
    return [instruction for instruction, _ in points], successors, rows.kinds


class Rows:
    """Instructions with their targets (labels, or None for what follows), and labels (numbers) between them."""

    def __init__(self, program, name):
        self.records, self.functions = dict(program[0]), {function[0]: function for function in program[1]}
        _, parameters, result, _, block = self.functions[name]
        self.kinds, self.rows, self.labels, self.temporaries = dict(parameters), [], 0, 0
        outer = [parameter for parameter, _ in parameters]
        self.block(block, outer)
        if result == UNIT:
            last = self.value(("unit",))
            self.drops(outer)
            self.put("leave", last, targets=())
        else:
            self.put("stop", targets=())

    def put(self, *instruction, targets=None):
        self.rows.append((instruction, targets))

    def new_label(self):
        self.labels += 1
        return self.labels

    def drops(self, names):
        for name in names[::-1]:
            self.put("drop", name)

    def block(self, block, outer):
        """`outer` are the names that are in scope around the block."""
        own = []
        for statement in block:
            self.statement(statement, outer + own)
            if statement[0] == "let":
                own.append(statement[1])
        self.drops(own)

    def statement(self, statement, scope):
        word, *rest = statement
        if word == "let":
            self.kinds[rest[0]] = self.kind(rest[1])
        if word in ("let", "store"):
            self.put(word, rest[0], self.value(rest[1]))
        elif word in ("if", "while"):
            again, other, behind = self.new_label(), self.new_label(), self.new_label()
            into = self.new_label()
            self.rows.append(again)
            self.put("test", self.value(rest[0]), targets=(into, other))
            self.rows.append(into)
            self.block(rest[1], scope)
            self.put("jump", targets=(again if word == "while" else behind,))
            self.rows.append(other)
            self.block(rest[2] if word == "if" else (), scope)
            self.rows.append(behind)
        else:
            value = self.value(rest[0])
            if word == "return":
                self.drops(scope)
            self.put({"do": "drop", "return": "leave"}.get(word, word), value, targets=() if word == "return" else None)

    def value(self, tree):
        """The temporary of an expression."""
        shape, *rest = tree
        if shape in ("tuple", "record", "call"):
            parts = [tuple([self.value(part) for part in rest[-1]])]
        else:
            # A place and a kind are no expressions, though they are tuples, too.
            inner = rest[{"swap": 1, "op": 1}.get(shape, 0):] if shape not in ("use", "is", "borrow", "none") else []
            parts = [self.value(part) for part in inner if isinstance(part, tuple)]
        temporary = f"#{self.temporaries}"
        self.temporaries += 1
        self.kinds[temporary] = self.kind(tree)
        self.put(*self.instruction(tree, temporary, parts))
        return temporary

    def instruction(self, tree, temporary, parts):
        shape = tree[0]
        if shape in ("int", "bool", "unit", "none"):
            return "set", temporary, tree
        if shape in ("some", "box"):
            return "make", temporary, shape, tuple(parts)
        if shape in ("tuple", "record"):
            return "make", temporary, "tuple" if shape == "tuple" else tree[1], parts[0]
        if shape == "use":
            return "copy" if copies(self.kind(tree)) else "move", temporary, tree[1]
        own = {"borrow": tree[1:], "is": tree[1:], "swap": tree[1:2], "op": tree[1:2], "call": tree[1:2]}
        return (shape, temporary, *own.get(shape, ()), *parts)

    def kind(self, tree):
        """The kind of an expression, told by the whole expression."""
        shape = tree[0]
        if shape in ("use", "swap", "borrow"):
            name, steps = tree[-1] if shape != "swap" else tree[1]
            kind = self.kinds[name]
            for step in steps:
                kind = dict(parts_with_steps(self.records, kind))[step]
            return (tree[1], kind) if shape == "borrow" else kind
        if shape == "op":
            return INT if tree[1] in "+-*" else BOOL
        if shape in ("some", "box"):
            return ({"some": "maybe", "box": "box"}[shape], self.kind(tree[1]))
        return {
            "int": lambda: INT, "bool": lambda: BOOL, "unit": lambda: UNIT, "is": lambda: BOOL, "not": lambda: BOOL,
            "none": lambda: ("maybe", tree[1]), "tuple": lambda: ("tuple", tuple(map(self.kind, tree[1]))),
            "record": lambda: ("record", tree[1]), "unbox": lambda: self.kind(tree[1])[1],
            "call": lambda: self.functions[tree[1]][2],
        }[shape]()
