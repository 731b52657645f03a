"""Random programs with statements that do not pass the check of kinds, and the problem that comes first."""

from tests.valid import INT, ValidMaker

ZZ = ("zz", ())
ONE, TRUE, UNIT_VALUE = ("int", 1), ("bool", True), ("unit",)
UNKNOWN = ("use", ZZ)


class SlipMaker(ValidMaker):
    """Puts slips in front of the statements with these numbers; `expected` is the first slip's problem."""

    def __init__(self, seed, numbers):
        super().__init__(seed)
        self.numbers = numbers
        self.made_statements = 0
        self.expected = None

    def statement(self, depth):
        self.made_statements += 1
        slip = self.slip() if self.made_statements in self.numbers else []
        return slip + super().statement(depth)

    def slip(self):
        names = {}
        rows = []
        # Each helper is declared behind those that it needs.
        for letter, make in (
            ("i", lambda: (ONE, INT)), ("t", lambda: (("tuple", (ONE, TRUE)), ("tuple", (INT, ("bool",))))),
            ("b", lambda: (("box", ("box", ONE)), ("box", ("box", INT)))),
            ("m", lambda: (("some", ONE), ("maybe", INT))),
            ("s", lambda: (("borrow", "shared", (names["t"], ())), ("shared", ("tuple", (INT, ("bool",)))))),
            ("r", lambda: (("borrow", "exclusive", (names["i"], ())), ("exclusive", INT))),
        ):
            rows.append(self.declaration(make()))
            names[letter] = self.used[-1]
        place = lambda letter, *steps: (names[letter], steps)
        if self.maybe(0.7):
            bad, reason = self.bad_expression(place)
            rows.append(self.around(bad, names))
        else:
            bad, reason = self.bad_statement(place, names)
            rows.append(bad)
        if self.expected is None:
            self.expected = (self.signature_now[0], reason)
        return rows

    def around(self, bad, names):
        """A statement with a bad expression, in which everything behind the bad one is bad in another way."""
        return self.one((
            ("do", bad), ("let", names["i"], bad), ("let", "fresh", bad), ("print", bad), ("return", bad),
            ("store", ZZ, bad), ("if", bad, (("print", UNKNOWN),), ()), ("while", bad, (("print", TRUE),)),
            ("do", ("tuple", (ONE, bad, UNKNOWN))), ("do", ("call", "nosuch", (bad, UNKNOWN))),
            ("do", ("record", "Nosuch", (bad,))), ("print", ("op", "+", bad, UNKNOWN)), ("do", ("unbox", bad)),
            ("do", ("op", "and", TRUE, bad)), ("do", ("not", bad)), ("do", ("swap", ZZ, bad)), ("do", ("some", bad)),
            ("do", ("tuple", (bad,) * 7)), ("do", ("box", ("box", bad))), ("let", "fresh", ("tuple", (bad,))),
        ))

    def bad_expression(self, place):
        reason = self.one(("unknown", "step", "count", "kind", "move", "borrow"))
        return self.one(getattr(self, "bad_" + reason)(place)), reason

    def bad_unknown(self, place):
        rows = [UNKNOWN, ("call", "zz", ()), ("record", "Zz", ()), ("call", "zz", (TRUE,)),
                ("record", "Zz", (ONE, ONE))]
        rows += [("borrow", "shared", ZZ), ("borrow", "exclusive", ZZ), ("is", ZZ), ("swap", ZZ, ONE)]
        return rows + [("use", ("zz", ("^",) * 13)), ("is", ("fresh", (0,)))]

    def bad_step(self, place):
        wrong = [("i", 0), ("i", "^"), ("i", "?"), ("t", 2), ("t", -1), ("t", "f0"), ("t", "^"), ("m", 0), ("m", "^"),
                 ("b", "^", "^", "^"), ("s", 0), ("s", "^", 2), ("r", "?"), ("r", "^", "^"), ("b", 0),
                 ("m", "?", "?")]
        found = place(*self.one(wrong))
        return [("use", found), ("is", found), ("borrow", "shared", found), ("borrow", "exclusive", found),
                ("swap", found, ONE), ("swap", found, UNIT_VALUE)]

    def bad_count(self, place):
        heads = [("call", name, len(parameters)) for name, parameters, _, _ in self.signatures]
        heads += [("record", name, len(fields)) for name, fields in self.records]
        rows = [(shape, name, (ONE,) * (count + 1)) for shape, name, count in heads]
        return rows + [(shape, name, (UNIT_VALUE,) * (count - 1)) for shape, name, count in heads if count]

    def bad_kind(self, place):
        wrong_call = [("call", name, (("tuple", (("unit",), ("unit",), ONE)),) * len(parameters))
                      for name, parameters, _, _ in self.signatures if parameters]
        deep = UNIT_VALUE
        for _ in range(6):
            deep = ("some", deep)
        return wrong_call + [
            ("op", "+", TRUE, ONE), ("op", "<", ONE, UNIT_VALUE), ("op", "and", ONE, TRUE), ("op", "or", TRUE, ONE),
            ("op", "==", TRUE, TRUE), ("not", ONE), ("unbox", ONE), ("unbox", ("use", place("m"))), ("is", place("i")),
            ("is", place("r")), ("none", ("box", ("shared", INT))), ("none", ("record", "Zz")), ("tuple", (ONE,)),
            ("tuple", ()), ("tuple", (ONE,) * 7), ("box", ("use", place("s"))), ("box", ("borrow", "shared", place("i"))),
            ("swap", place("i"), TRUE), ("swap", place("t"), ONE), ("swap", place("r", "^"), TRUE), deep,
            ("none", ("shared", ("exclusive", INT))), ("none", ("tuple", (INT,))), ("none", ("tuple", (INT,) * 7)),
        ]

    def bad_move(self, place):
        return [("use", place("b", "^"))]

    def bad_borrow(self, place):
        rows = [("borrow", mode, place(letter)) for mode in ("shared", "exclusive") for letter in ("s", "r")]
        rows += [("borrow", "exclusive", place("s", "^")), ("borrow", "exclusive", place("s", "^", 0))]
        return rows + [("swap", place("s"), ONE), ("swap", place("s", "^", 0), ONE), ("swap", place("s", "^"), ONE)]

    def bad_statement(self, place, names):
        taken = self.one([name for name, _ in self.scope])
        other = UNIT_VALUE if self.signature_now[2] == INT else ONE
        return self.one((
            (("print", TRUE), "kind"), (("print", ("use", place("r"))), "kind"), (("if", ONE, (), ()), "kind"),
            (("while", UNIT_VALUE, ()), "kind"), (("return", other), "kind"), (("store", place("i"), TRUE), "kind"),
            (("store", place("t", 1), ONE), "kind"), (("store", place("r", "^"), TRUE), "kind"),
            (("store", place("s", "^", 0), ONE), "borrow"), (("store", place("s", "^", 0), TRUE), "borrow"),
            (("store", place("i", 0), ONE), "step"), (("store", ZZ, ONE), "unknown"),
            (("let", taken, ONE), "declared"),
            (("let", names["b"], ("use", place("b"))), "declared"), (("let", taken, UNKNOWN), "unknown"),
        ))
