"""Random programs full of borrows; those of AcceptedMaker are accepted by the checker.

AcceptedMaker asks the checker after each statement, and leaves a statement out that it refuses.
"""

from lendback.checker import check_function
from tests.valid import BOOL, INT, ValidMaker, has_borrow

LIST = ("Link", (("value", INT), ("next", ("maybe", ("box", ("record", "Link")))), ("pair", ("tuple", (INT, ("box", INT))))))


class LendingMaker(ValidMaker):
    """Programs with a record of links, and with many borrows, walks, swaps and counted loops."""

    def make_records(self):
        super().make_records()
        self.names = self.names + ["Link"]
        self.records += (LIST,)

    def signature(self, name):
        name, parameters, result, sources = super().signature(name)
        lending = [parameter for parameter, kind in parameters if has_borrow(kind)]
        if has_borrow(result) and self.maybe(0.8):
            sources = tuple(lending)
        return (name, parameters, result, sources)

    def kind(self, depth):
        if self.maybe(0.15):
            return (self.one(("shared", "exclusive")), ("record", "Link"))
        return super().kind(depth)

    def statement(self, depth):
        shapes = ("plain", "plain", "plain", "lend", "lend", "lend", "through", "through", "walk", "walk", "swap", "handed")
        shape = self.one(shapes + ("count", "if", "while") * (depth > 0))
        if shape in ("if", "while"):
            return self.branching(shape, depth)
        found = None
        if shape == "lend":
            found = self.lending()
        elif shape == "through":
            found = self.storing([row for row in self.places() if row[2] == "exclusive"])
        elif shape == "walk":
            found = self.walking()
        elif shape == "swap":
            found = self.swapping()
        elif shape == "handed":
            found = self.handing()
        elif shape == "count":
            found = self.counting(depth)
        return super().statement(0) if found is None else found

    def branching(self, shape, depth):
        condition = self.expression_of(BOOL, 2)
        if shape == "while":
            return [("while", condition, self.inner_block(depth, lambda inner: (("while", condition, inner),)))]
        first = self.inner_block(depth, lambda inner: (("if", condition, inner, ()),))
        other = self.inner_block(depth, lambda inner: (("if", condition, first, inner),))
        return [("if", condition, first, other)]

    def lending(self):
        rows = [row for row in self.places() if not has_borrow(row[1])]
        if not rows:
            return None
        place, kind, mode = self.one(rows)
        taken = "shared" if mode == "shared" else self.one(("shared", "exclusive", "exclusive"))
        return [self.declaration((("borrow", taken, place), (taken, kind)))]

    def storing(self, rows):
        if not rows:
            return None
        place, kind, _ = self.one(rows)
        found = self.expression_of(kind, 2)
        return None if found is None else [("store", place, found)]

    def walking(self):
        """A borrow that goes on to a part of what it refers to."""
        borrows = [row for row in self.places() if row[1][0] in ("shared", "exclusive") and row[2] is None]
        if not borrows:
            return None
        (name, steps), (mode, kind), _ = self.one(borrows)
        rows = [place for place, found, _ in self.places()
                if found == kind and place[0] == name and place[1][:len(steps)] == steps]
        return [("store", (name, steps), ("borrow", mode, self.one(rows)))] if rows else None

    def swapping(self):
        rows = [row for row in self.places() if row[2] != "shared" and not has_borrow(row[1])]
        if not rows:
            return None
        place, kind, _ = self.one(rows)
        found = self.expression_of(kind, 2)
        return None if found is None else [self.declaration((("swap", place, found), kind))]

    def handing(self):
        """The value of a call."""
        name, parameters, result, _ = self.one(self.signatures)
        found = self.filled(("call", name), [kind for _, kind in parameters], 2)
        return None if found is None else [self.declaration((found, result))]

    def counting(self, depth):
        """A loop with a few rounds."""
        start = self.declaration((("int", 0), INT))
        place = (start[1], ())
        condition = ("op", "<", ("use", place), ("int", self.random.randint(1, 3)))
        first = ("store", place, ("op", "+", ("use", place), ("int", 1)))
        around = lambda inner: (start, ("while", condition, (first,) + inner))
        return list(around(self.inner_block(depth, around)))

    def inner_block(self, depth, around):
        """A block, around which `around` puts the statements to which it belongs."""
        return self.block(depth - 1)


class AcceptedMaker(LendingMaker):
    """Programs that the checker accepts."""

    def function(self, signature):
        self.around = lambda block: block
        return super().function(signature)

    def is_accepted(self, block):
        """Whether the checker accepts the function, as far as it was made, with this block in it."""
        name = self.signature_now[0]
        stubs = [row + (self.around(block) if row[0] == name else (),) for row in self.signatures]
        return check_function((self.records, tuple(stubs)), name) is None

    def block(self, depth):
        outside, statements = len(self.scope), ()
        for _ in range(self.random.randint(1, 2 * self.most)):
            before = len(self.scope)
            self.before = statements
            added = tuple(self.statement(depth))
            if self.is_accepted(statements + added):
                statements += added
            else:
                del self.scope[before:]
        del self.scope[outside:]
        return statements

    def inner_block(self, depth, around):
        before, outer = self.before, self.around
        self.around = lambda block: outer(before + around(block))
        found = self.block(depth - 1)
        self.around, self.before = outer, before
        return found
