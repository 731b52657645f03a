import unittest

from lendback.errors import NoSuchStep
from lendback.kinds import is_copy, is_plain, kind_after, leaves, levels

INT, BOOL, UNIT = ("int",), ("bool",), ("unit",)
PAIR = ("record", "Pair")
RECORDS = (
    ("Pair", (("a", INT), ("b", ("box", INT)))),
    ("Node", (("next", ("maybe", ("box", ("record", "Node")))), ("pair", PAIR), ("a", BOOL))),
)


class Facts:
    """A kind, and what is so about it because of how it was made."""

    def __init__(self, kind, count, plain, copied, paths):
        self.kind = kind
        self.count = count
        self.plain = plain
        self.copied = copied
        self.paths = paths


def tuple_of(parts):
    paths = []
    for index, part in enumerate(parts):
        paths += [(index, *path) for path in part.paths]
    return Facts(
        ("tuple", tuple([part.kind for part in parts])), max(part.count for part in parts) + 1,
        not any(not part.plain for part in parts), not any(not part.copied for part in parts), paths,
    )


def wrapped(facts, low):
    """Facts of every shape of a kind with these facts inside; `low` has one level."""
    kind, more = facts.kind, facts.count + 1
    made = [
        Facts(("maybe", kind), more, facts.plain, facts.copied, [("?", *path) for path in facts.paths]),
        tuple_of([facts, low]), tuple_of([low, facts, facts]), tuple_of([low, low, low, low, low, facts]),
    ]
    if facts.plain:
        made.append(Facts(("box", kind), more, True, False, []))
        made.append(Facts(("shared", kind), more, False, True, [()]))
        made.append(Facts(("exclusive", kind), more, False, False, [()]))
    return made


def kinds_of_level(most):
    """For each level from 1 on a list of facts of kinds, of every shape."""
    low = [Facts(kind, 1, True, True, []) for kind in (INT, BOOL, UNIT)] + [Facts(PAIR, 1, True, False, [])]
    rows = [low]
    while len(rows) < most:
        found = []
        for at, facts in enumerate(rows[-1]):
            found += wrapped(facts, low[at % 4])
        # Each level is thinned out: it would otherwise have six times as many kinds as the one below.
        rows.append(found[::1 + len(found) // 150])
    return rows


class MadeKinds(unittest.TestCase):
    def setUp(self):
        self.rows = kinds_of_level(7)

    def test_every_shape_is_on_every_level(self):
        for row in self.rows[1:]:
            shapes = sorted({facts.kind[0] for facts in row})
            self.assertEqual(shapes, ["box", "exclusive", "maybe", "shared", "tuple"])

    def test_levels(self):
        for row in self.rows:
            for facts in row:
                self.assertEqual(levels(facts.kind), facts.count, facts.kind)

    def test_the_levels_are_these(self):
        for at, row in enumerate(self.rows):
            self.assertEqual({facts.count for facts in row}, {at + 1})

    def test_is_plain(self):
        for row in self.rows:
            for facts in row:
                self.assertIs(is_plain(facts.kind), facts.plain, facts.kind)

    def test_is_copy(self):
        for row in self.rows:
            for facts in row:
                self.assertIs(is_copy(facts.kind), facts.copied, facts.kind)

    def test_leaves(self):
        for row in self.rows:
            for facts in row:
                self.assertEqual(repr(leaves(facts.kind)), repr(tuple(facts.paths)), facts.kind)

    def test_every_leaf_leads_to_a_borrow(self):
        for row in self.rows:
            for facts in row:
                for path in leaves(facts.kind):
                    kind = facts.kind
                    for step in path:
                        kind = kind_after(RECORDS, kind, step)
                    self.assertIn(kind[0], ("shared", "exclusive"))


class NamedKinds(unittest.TestCase):
    def test_levels(self):
        cases = (
            (INT, 1), (BOOL, 1), (UNIT, 1), (PAIR, 1), (("record", "Node"), 1), (("box", INT), 2),
            (("shared", PAIR), 2), (("tuple", (INT, BOOL)), 2), (("tuple", (INT, ("maybe", ("box", INT)))), 4),
            (("tuple", (("maybe", ("box", INT)), INT)), 4), (("exclusive", ("box", INT)), 3),
        )
        for kind, count in cases:
            self.assertEqual(levels(kind), count)

    def test_is_plain(self):
        for kind in (INT, PAIR, ("box", PAIR), ("tuple", (INT, ("maybe", INT)))):
            self.assertIs(is_plain(kind), True)
        shared, exclusive = ("shared", INT), ("exclusive", INT)
        for kind in (shared, exclusive, ("maybe", shared), ("tuple", (INT, exclusive)), ("tuple", (shared, INT))):
            self.assertIs(is_plain(kind), False)

    def test_a_borrow_is_found_also_where_none_may_stand(self):
        self.assertIs(is_plain(("box", ("shared", INT))), False)
        self.assertIs(is_plain(("box", ("maybe", ("exclusive", INT)))), False)

    def test_is_copy(self):
        for kind in (INT, BOOL, UNIT, ("shared", ("box", INT)), ("shared", PAIR), ("maybe", ("shared", INT)),
                     ("tuple", (INT, ("shared", PAIR), ("maybe", BOOL)))):
            self.assertIs(is_copy(kind), True)
        for kind in (("box", INT), PAIR, ("exclusive", INT), ("maybe", PAIR), ("maybe", ("exclusive", INT)),
                     ("tuple", (INT, ("box", INT))), ("tuple", (("exclusive", INT), INT))):
            self.assertIs(is_copy(kind), False)

    def test_leaves(self):
        shared, exclusive = ("shared", INT), ("exclusive", ("tuple", (INT, INT)))
        cases = (
            (INT, ()), (PAIR, ()), (("box", INT), ()), (("maybe", INT), ()), (("tuple", (INT, INT)), ()),
            (shared, ((),)), (exclusive, ((),)), (("maybe", shared), (("?",),)),
            (("tuple", (exclusive, INT, shared)), ((0,), (2,))),
            (("tuple", (("maybe", ("tuple", (INT, shared))), exclusive)), ((0, "?", 1), (1,))),
            (("maybe", ("maybe", ("tuple", (shared, shared)))), (("?", "?", 0), ("?", "?", 1))),
            (("box", shared), ()), (("shared", shared), ((),)),
        )
        for kind, paths in cases:
            self.assertEqual(leaves(kind), paths)


class KindAfter(unittest.TestCase):
    def fits(self, kind, step, after):
        self.assertEqual(kind_after(RECORDS, kind, step), after)

    def fits_not(self, kind, *steps):
        for step in steps:
            with self.assertRaises(NoSuchStep):
                kind_after(RECORDS, kind, step)

    def test_items(self):
        kinds = (INT, BOOL, UNIT, PAIR, ("box", INT), ("shared", INT))
        for index, kind in enumerate(kinds):
            self.fits(("tuple", kinds), index, kind)
        self.fits_not(("tuple", kinds), 6, 7, -1, -6, 9999999999, "0", "a", "?", "^")
        self.fits(("tuple", (INT, BOOL)), 1, BOOL)
        self.fits_not(("tuple", (INT, BOOL)), 2, -1, -2)

    def test_fields(self):
        self.fits(PAIR, "a", INT)
        self.fits(PAIR, "b", ("box", INT))
        self.fits(("record", "Node"), "next", ("maybe", ("box", ("record", "Node"))))
        self.fits(("record", "Node"), "pair", PAIR)
        self.fits(("record", "Node"), "a", BOOL)
        self.fits_not(PAIR, "next", "c", "A", "", 0, 1, -1, "?", "^")
        self.fits_not(("record", "Other"), "a", 0, "?", "^")

    def test_payloads(self):
        self.fits(("maybe", PAIR), "?", PAIR)
        self.fits_not(("maybe", PAIR), "^", "a", 0)
        self.fits_not(("maybe", ("tuple", (INT, INT))), 0, 1)

    def test_contents(self):
        for shape in ("box", "shared", "exclusive"):
            self.fits((shape, ("maybe", PAIR)), "^", ("maybe", PAIR))
            self.fits_not((shape, ("maybe", PAIR)), "?", "a", 0)
            self.fits_not((shape, PAIR), "a", "b")
            self.fits_not((shape, ("tuple", (INT, INT))), 0, 1)

    def test_nothing_fits_the_others(self):
        for kind in (INT, BOOL, UNIT):
            self.fits_not(kind, 0, 1, -1, "a", "int", "?", "^")

    def test_records_are_asked_of_the_tuple_that_is_passed(self):
        self.assertEqual(kind_after((("Pair", (("a", UNIT),)),), PAIR, "a"), UNIT)
        with self.assertRaises(NoSuchStep):
            kind_after((), PAIR, "a")
