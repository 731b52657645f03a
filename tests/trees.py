"""Trees of programs: random ones, their tokens, and texts that have these tokens."""

import random

from tests.grammar import TOKEN

OPERATION_SIGNS = ("+", "-", "*", "<", "==", "and", "or")


class Maker:
    """Makes random trees that follow sections 10 to 12, from a fixed seed."""

    def __init__(self, seed):
        self.random = random.Random(seed)

    def one(self, parts):
        return parts[self.random.randrange(len(parts))]

    def some(self, make, least, most):
        return tuple([make() for _ in range(self.random.randint(least, most))])

    def name(self):
        return self.one(("a", "x", "y1", "long_name", "recorder", "is_some", "q" * 20, "z_", "b2b", "integer"))

    def record_name(self):
        return self.one(("A", "Pair", "Node2", "ABC", "R" * 20, "Int", "Box"))

    def kind(self, depth):
        shape = self.one(("flat", "record", "box", "maybe", "shared", "exclusive", "tuple"))
        if depth == 0 or shape == "flat":
            return (self.one(("int", "bool", "unit")),)
        if shape == "record":
            return ("record", self.record_name())
        if shape == "tuple":
            return ("tuple", self.some(lambda: self.kind(depth - 1), 2, 4))
        return (shape, self.kind(depth - 1))

    def place(self):
        step = lambda: self.one((0, 1, 5, 9999999999, "?", "^", "field", "b"))
        return (self.name(), self.some(step, 0, self.one((0, 0, 1, 3, 12))))

    def integer(self):
        return ("int", self.one((0, 1, -1, 7, -5, 2147483647, -2147483648, 1000000000)))

    def flat(self):
        return self.one((
            self.integer(), ("bool", True), ("bool", False), ("unit",), ("use", self.place()),
            ("borrow", "shared", self.place()), ("borrow", "exclusive", self.place()),
            ("is", self.place()), ("none", self.kind(3)),
        ))

    def expression(self, depth):
        if depth == 0:
            return self.flat()
        inner = lambda: self.expression(depth - 1)
        return self.one((
            lambda: self.flat(),
            lambda: (self.one(("some", "box", "unbox", "not")), inner()),
            lambda: ("tuple", self.some(inner, 2, 4)),
            lambda: ("record", self.record_name(), self.some(inner, 0, 3)),
            lambda: ("call", self.name(), self.some(inner, 0, 3)),
            lambda: ("swap", self.place(), inner()),
            lambda: ("op", self.one(OPERATION_SIGNS), inner(), inner()),
        ))()

    def statement(self, depth):
        value = self.expression(self.one((0, 1, 2, 3)))
        shape = self.one(("let", "store", "do", "print", "return", "if", "while"))
        if shape == "let":
            return ("let", self.name(), value)
        if shape == "store":
            return ("store", self.place(), value)
        if depth == 0 or shape in ("do", "print", "return"):
            return (self.one(("do", "print", "return")), value)
        if shape == "if":
            return ("if", value, self.block(depth - 1), self.block(depth - 1))
        return ("while", value, self.block(depth - 1))

    def block(self, depth):
        return self.some(lambda: self.statement(depth), 0, 3)

    def field(self):
        return (self.name(), self.kind(3))

    def record(self):
        return (self.record_name(), self.some(self.field, 1, 3))

    def function(self):
        sources = self.some(self.name, 0, 2)
        return (self.name(), self.some(self.field, 0, 3), self.kind(3), sources, self.block(2))

    def program(self):
        return (self.some(self.record, 0, 2), self.some(self.function, 0, 3))


def separated(rows):
    """The tokens of several parts, with commas between the parts."""
    found = []
    for row in rows:
        found += [","] + row
    return found[1:]


def kind_tokens(kind):
    if kind[0] == "record":
        return [kind[1]]
    if kind[0] == "tuple":
        return ["("] + separated([kind_tokens(part) for part in kind[1]]) + [")"]
    if kind[0] == "shared":
        return ["&"] + kind_tokens(kind[1])
    if kind[0] == "exclusive":
        return ["&", "mut"] + kind_tokens(kind[1])
    return [kind[0]] + (kind_tokens(kind[1]) if kind[1:] else [])


def place_tokens(place):
    found = [place[0]]
    for step in place[1]:
        found += [step] if step in ("?", "^") else [".", str(step)]
    return found


def expression_tokens(tree):
    shape = tree[0]
    if shape == "int":
        return ["-", str(-tree[1])] if tree[1] < 0 else [str(tree[1])]
    if shape == "bool":
        return ["true" if tree[1] else "false"]
    if shape == "none":
        return ["none", "["] + kind_tokens(tree[1]) + ["]"]
    if shape == "use":
        return place_tokens(tree[1])
    if shape == "is":
        return place_tokens(tree[1]) + ["is", "some"]
    if shape == "borrow":
        return (["&"] if tree[1] == "shared" else ["&", "mut"]) + place_tokens(tree[2])
    if shape == "swap":
        return ["swap"] + place_tokens(tree[1]) + ["with"] + expression_tokens(tree[2])
    if shape == "op":
        return ["("] + expression_tokens(tree[2]) + [tree[1]] + expression_tokens(tree[3]) + [")"]
    if shape == "tuple":
        return ["("] + separated([expression_tokens(part) for part in tree[1]]) + [")"]
    if shape in ("record", "call"):
        return [tree[1], "("] + separated([expression_tokens(part) for part in tree[2]]) + [")"]
    return [shape] + (expression_tokens(tree[1]) if tree[1:] else [])


def statement_tokens(tree):
    if tree[0] == "let":
        return ["let", tree[1], "="] + expression_tokens(tree[2]) + [";"]
    if tree[0] == "store":
        return place_tokens(tree[1]) + ["="] + expression_tokens(tree[2]) + [";"]
    start = [tree[0]] + expression_tokens(tree[1])
    if tree[0] == "if":
        return start + block_tokens(tree[2]) + ["else"] + block_tokens(tree[3])
    if tree[0] == "while":
        return start + block_tokens(tree[2])
    return start + [";"]


def block_tokens(block):
    found = []
    for statement in block:
        found += statement_tokens(statement)
    return ["{"] + found + ["}"]


def fields_tokens(fields):
    return separated([[name, ":"] + kind_tokens(kind) for name, kind in fields])


def program_tokens(program):
    found = []
    for name, fields in program[0]:
        found += ["record", name, "{"] + fields_tokens(fields) + ["}"]
    for name, parameters, result, sources, block in program[1]:
        found += ["fn", name, "("] + fields_tokens(parameters) + [")", "->"] + kind_tokens(result)
        found += ["from"] + separated([[source] for source in sources]) if sources else []
        found += block_tokens(block)
    return found


def tight(tokens):
    """A text with these tokens that has a blank only where two of them would merge."""
    text = ""
    before = ""
    for token in tokens:
        merged = before and TOKEN.findall(before + token) != [before, token]
        text += " " + token if merged else token
        before = token
    return text


def loose(tokens, seed):
    """A text with these tokens and with one or more blanks and newlines around them all."""
    chance = random.Random(seed)
    text = ""
    for token in tokens + [""]:
        for _ in range(chance.randint(1, 4)):
            text += "\n" if chance.randrange(3) == 0 else " "
        text += token
    return text
