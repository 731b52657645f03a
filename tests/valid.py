"""Random programs that pass the check of kinds, because each part is made for the kind that it must have.

Nothing here asks the package: the kinds of places, leaves and sizes are found in a way of their own.
"""

import random

INT, BOOL, UNIT = ("int",), ("bool",), ("unit",)
INTEGER_SIGNS, ORDER_SIGNS, LOGIC_SIGNS = ("+", "-", "*"), ("<", "=="), ("and", "or")
LONGEST_PLACE = 5


def inner_kinds(kind):
    """The kinds directly in a kind."""
    return kind[1] if kind[0] == "tuple" else kind[1:] if kind[0] not in ("int", "bool", "unit", "record") else ()


def kind_levels(kind):
    return 1 + max(map(kind_levels, inner_kinds(kind)), default=0)


def has_borrow(kind):
    return "shared" in repr(kind) or "exclusive" in repr(kind)


def copies(kind):
    if kind[0] in ("maybe", "tuple"):
        return all(map(copies, inner_kinds(kind)))
    return kind[0] not in ("box", "record", "exclusive")


def kind_cells(records, kind):
    if kind[0] in ("maybe", "tuple"):
        return (kind[0] == "maybe") + sum(kind_cells(records, part) for part in inner_kinds(kind))
    if kind[0] == "record":
        return sum(kind_cells(records, part) for _, part in dict(records)[kind[1]])
    return 1


def parts_with_steps(records, kind):
    """The pairs of a step that fits a kind and the kind of what it selects."""
    if kind[0] == "tuple":
        return list(enumerate(kind[1]))
    if kind[0] == "record":
        return list(dict(records)[kind[1]])
    if kind[0] in ("maybe", "box", "shared", "exclusive"):
        return [("?" if kind[0] == "maybe" else "^", kind[1])]
    return []


def places_within(records, name, kind):
    """Triples of a place, its kind and the mode of the borrow that it crosses, for a variable."""
    found, waiting = [], [((name, ()), kind, None)]
    while waiting:
        place, kind, mode = waiting.pop(0)
        found.append((place, kind, mode))
        inner = kind[0] if kind[0] in ("shared", "exclusive") else mode
        if len(place[1]) < LONGEST_PLACE:
            for step, part in parts_with_steps(records, kind):
                waiting.append(((name, place[1] + (step,)), part, inner))
    return found


def reduced(rows, count, chance):
    return rows if len(rows) <= count else chance.sample(rows, count)


class ValidMaker:
    """Makes one program from a seed."""

    def __init__(self, seed, statements=5):
        self.random = random.Random(seed)
        self.most = statements
        self.records = ()
        self.signatures = []

    def one(self, rows):
        return rows[self.random.randrange(len(rows))]

    def maybe(self, chance):
        return self.random.random() < chance

    def some(self, make, least, most):
        return tuple([make() for _ in range(self.random.randint(least, most))])

    # Kinds

    def plain_kind(self, depth, names):
        shape = self.one(("flat", "flat", "box", "maybe", "tuple", "record", "link"))
        if shape == "record" and names:
            return ("record", self.one(names))
        if shape == "link" and self.names:
            return ("maybe", ("box", ("record", self.one(self.names))))
        if depth and shape == "tuple":
            return ("tuple", self.some(lambda: self.plain_kind(depth - 1, names), 2, 3))
        if depth and shape in ("box", "maybe"):
            return (shape, self.plain_kind(depth - 1, names))
        return self.one((INT, INT, BOOL, UNIT))

    def kind(self, depth):
        shape = self.one(("plain", "plain", "borrow", "borrow", "maybe", "tuple"))
        if shape == "borrow":
            return (self.one(("shared", "exclusive")), self.fitting(self.plain_kind(1, self.names)))
        if depth and shape == "maybe":
            return self.fitting(("maybe", self.kind(depth - 1)))
        if depth and shape == "tuple":
            return self.fitting(("tuple", self.some(lambda: self.kind(depth - 1), 2, 3)))
        return self.fitting(self.plain_kind(2, self.names))

    def fitting(self, kind):
        return kind if kind_levels(kind) < 6 and kind_cells(self.records, kind) < 60 else INT

    # Declarations

    def make_records(self):
        self.names = ["A", "B", "C"][:self.random.randrange(4)]
        for at, name in enumerate(self.names):
            # Without a box between, only earlier ones: in the program they come in any order.
            kinds = self.some(lambda: self.plain_kind(1, self.names[:at]), 1, 6)
            fields = [(f"f{index}", kind) for index, kind in enumerate(kinds)]
            self.records += ((name, tuple(fields)),)
            if kind_cells(self.records, ("record", name)) > 20:
                self.records = self.records[:-1] + ((name, (("f0", INT),)),)
        rows = list(self.records)
        self.random.shuffle(rows)
        self.records = tuple(rows)

    def signature(self, name):
        if name == "main":
            parameters = self.some(lambda: self.one((INT, BOOL)), 0, 3)
            result = self.fitting(self.plain_kind(2, self.names))
        else:
            parameters = self.some(lambda: self.kind(2), 0, self.one((2, 3, 6)))
            result = self.kind(2)
        parameters = tuple([(f"p{at}", kind) for at, kind in enumerate(parameters)])
        lending = [parameter for parameter, kind in parameters if has_borrow(kind)]
        sources = self.random.sample(lending, self.random.randint(0, len(lending)))
        return (name, parameters, result if self.maybe(0.7) else UNIT, tuple(sources))

    def program(self):
        self.make_records()
        names = ["main"] + ["f", "g", "h"][:self.random.randrange(4)]
        self.random.shuffle(names)
        self.signatures = [self.signature(name) for name in names]
        return (self.records, tuple([self.function(signature) for signature in self.signatures]))

    def function(self, signature):
        self.signature_now = signature
        self.scope = list(signature[1])
        self.used = [name for name, _ in self.scope]
        return signature + (self.block(2),)

    # Statements

    def block(self, depth):
        outside = len(self.scope)
        statements = []
        for _ in range(self.random.randint(0, self.most)):
            statements += self.statement(depth)
        del self.scope[outside:]
        return tuple(statements)

    def statement(self, depth):
        """A list of statements, most often of one."""
        shape = self.one(("let", "let", "let", "store", "do", "print", "return", "if", "while"))
        if shape == "let":
            return [self.declaration(self.value(3))]
        if shape == "store":
            places = [row for row in self.places() if row[2] != "shared"]
            place, kind, _ = self.one(places) if places else (None, None, None)
            value = self.expression_of(kind, 2) if places else None
            return [] if value is None else [("store", place, value)]
        if shape == "return":
            value = self.expression_of(self.signature_now[2], 2)
            return [] if value is None or self.maybe(0.5) else [("return", value)]
        if depth and shape == "if":
            return [("if", self.expression_of(BOOL, 2), self.block(depth - 1), self.block(depth - 1))]
        if depth and shape == "while":
            return [("while", self.expression_of(BOOL, 2), self.block(depth - 1))]
        return [("print", self.expression_of(INT, 3))] if shape == "print" else [("do", self.value(3)[0])]

    def declaration(self, value):
        expression, kind = value
        name = f"v{len(self.used)}"
        self.used.append(name)
        self.scope.append((name, kind))
        return ("let", name, expression)

    # Expressions

    def places(self):
        return [row for name, kind in self.scope for row in places_within(self.records, name, kind)]

    def value(self, depth):
        """An expression of any kind, and its kind."""
        near = [kind for _, kind, _ in reduced(self.places(), 3, self.random)]
        plain = [kind for kind in near if not has_borrow(kind) and kind_levels(kind) < 6]
        lent = [(self.one(("shared", "exclusive")), kind) for kind in plain]
        handing = [signature for signature in self.signatures if signature[3] and has_borrow(signature[2])]
        if handing and self.maybe(0.4):
            name, parameters, result, _ = self.one(handing)
            found = self.filled(("call", name), [kind for _, kind in parameters], depth)
            if found is not None:
                return found, result
        kind = self.one([self.kind(2)] + near + lent)
        found = self.expression_of(kind, depth)
        return (self.expression_of(INT, depth), INT) if found is None else (found, kind)

    def expression_of(self, kind, depth):
        """An expression of this kind, or None if there is none."""
        places = [place for place, found,
                  _ in self.places() if found == kind and (copies(kind) or "^" not in place[1])]
        if places and self.maybe(0.5 if depth > 0 else 0.9):
            return ("use", self.one(places))
        if depth > 0 and self.maybe(0.3):
            found = self.roundabout(kind, depth - 1)
            if found is not None:
                return found
        found = self.made(kind, depth - 1)
        return ("use", self.one(places)) if found is None and places else found

    def roundabout(self, kind, depth):
        """The value of a call, a swap or a freed box, or None."""
        shape = self.one(("call", "call", "swap", "unbox"))
        if shape == "call":
            rows = [signature for signature in self.signatures if signature[2] == kind]
            if not rows:
                return None
            name, parameters, _, _ = self.one(rows)
            return self.filled(("call", name), [part for _, part in parameters], depth)
        if has_borrow(kind) or kind_levels(kind) == 6:
            return None
        if shape == "unbox":
            return ("unbox", self.expression_of(("box", kind), depth))
        places = [place for place, found, mode in self.places() if found == kind and mode != "shared"]
        return ("swap", self.one(places), self.expression_of(kind, depth)) if places else None

    def filled(self, head, kinds, depth):
        parts = tuple([self.expression_of(kind, depth) for kind in kinds])
        return None if None in parts else head + (parts,)

    def made(self, kind, depth):
        """An expression that makes a value of this kind, or None."""
        shape = kind[0]
        if shape in ("int", "bool", "unit"):
            return self.flat(shape, depth)
        if shape in ("shared", "exclusive"):
            places = [place for place, found, mode in self.places()
                      if found == kind[1] and (shape == "shared" or mode != "shared")]
            return ("borrow", shape, self.one(places)) if places else None
        if shape == "tuple":
            return self.filled(("tuple",), kind[1], depth)
        if shape == "record":
            return self.filled(("record", kind[1]), [part for _, part in dict(self.records)[kind[1]]], depth)
        part = self.expression_of(kind[1], depth) if shape == "box" or depth > 0 and self.maybe(0.6) else None
        if part is None:
            return ("none", kind[1])
        return ("some" if shape == "maybe" else "box", part)

    def flat(self, shape, depth):
        if shape == "unit":
            return ("unit",)
        if depth <= 0 or self.maybe(0.4):
            return ("int", self.one((0, 1, -1, 5, 2147483647, -2147483648))) if shape == "int" else ("bool",
                                                                                                     self.maybe(0.5))
        if shape == "int":
            return ("op", self.one(INTEGER_SIGNS), self.expression_of(INT, depth), self.expression_of(INT, depth))
        places = [place for place, kind, _ in self.places() if kind[0] == "maybe"]
        if places and self.maybe(0.5):
            return ("is", self.one(places))
        if self.maybe(0.3):
            return ("not", self.expression_of(BOOL, depth))
        side, signs = self.one(((INT, ORDER_SIGNS), (BOOL, LOGIC_SIGNS)))
        return ("op", self.one(signs), self.expression_of(side, depth), self.expression_of(side, depth))
