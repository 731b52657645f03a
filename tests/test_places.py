import collections
import unittest

from lendback.errors import NoSuchStep, NoSuchVariable
from lendback.places import crossed, crosses_shared, is_prefix, kind_at, overlap, place_leaves

INT, BOOL = ("int",), ("bool",)
NODE = ("record", "Node")
RECORDS = (("Node", (("next", ("maybe", ("box", NODE))), ("value", ("tuple", (INT, BOOL))))),)
LONG = ("next", "?", "^") * 4
KINDS_OF_LONG = [NODE, ("maybe", ("box", NODE)), ("box", NODE)] * 4 + [NODE]
MIXED = ("tuple", (
    ("maybe", ("tuple", (("exclusive", NODE), INT))), ("shared", ("tuple", (("box", INT), BOOL))), ("box", ("box", INT)),
))
KINDS = {"n": NODE, "x": INT, "r": ("exclusive", NODE), "p": ("shared", ("tuple", (INT, BOOL))), "m": MIXED, "#0": BOOL}


class Prefixes(unittest.TestCase):
    def test_places_of_every_length(self):
        for first in range(13):
            for second in range(13):
                one, other = ("n", LONG[:first]), ("n", LONG[:second])
                self.assertIs(is_prefix(one, other), first <= second)
                self.assertIs(overlap(one, other), True)

    def test_another_variable(self):
        for length in range(13):
            one, other = ("n", LONG[:length]), ("o", LONG)
            self.assertIs(is_prefix(one, other), False)
            self.assertIs(overlap(one, other), False)
        self.assertIs(is_prefix(("n", ()), ("nn", ())), False)

    def test_another_step(self):
        for at in range(12):
            other = ("n", LONG[:at] + ("other",) + LONG[at + 1:])
            for length in range(13):
                one = ("n", LONG[:length])
                self.assertIs(is_prefix(one, other), length <= at)
                self.assertIs(is_prefix(other, one), False)
                self.assertIs(overlap(one, other), length <= at)
                self.assertIs(overlap(other, one), length <= at)

    def test_steps_are_compared_as_they_are(self):
        self.assertIs(is_prefix(("a", (0,)), ("a", ("0",))), False)
        self.assertIs(is_prefix(("a", (1,)), ("a", (10,))), False)
        self.assertIs(is_prefix(("a", ("f",)), ("a", ("ff",))), False)
        self.assertIs(overlap(("a", (0,)), ("a", (1,))), False)
        self.assertIs(overlap(("a", ("^",)), ("a", ("?",))), False)
        self.assertIs(overlap(("a", (0, "^")), ("a", (0,))), True)


class KindAt(unittest.TestCase):
    def test_places_of_every_length(self):
        for length in range(13):
            self.assertEqual(kind_at(("n", LONG[:length]), records=RECORDS, kinds=KINDS), KINDS_OF_LONG[length])

    def test_every_kind_of_step(self):
        cases = (
            (("x", ()), INT), (("#0", ()), BOOL), (("r", ()), ("exclusive", NODE)), (("r", ("^",)), NODE),
            (("r", ("^", "value")), ("tuple", (INT, BOOL))), (("r", ("^", "value", 1)), BOOL),
            (("m", (0, "?", 0, "^", "value", 0)), INT), (("m", (1, "^", 0, "^")), INT), (("m", (2, "^", "^")), INT),
        )
        for place, kind in cases:
            self.assertEqual(kind_at(place, records=RECORDS, kinds=KINDS), kind)

    def test_more_than_twelve_steps(self):
        place = ("n", LONG + ("next", "?", "^", "value", 0))
        self.assertEqual(kind_at(place, records=RECORDS, kinds=KINDS), INT)

    def test_no_such_variable(self):
        for place in (("y", ()), ("y", (7, "^")), ("N", ()), ("", ()), ("#1", ("?",))):
            for ask in (kind_at, crossed, crosses_shared, place_leaves):
                with self.assertRaises(NoSuchVariable):
                    ask(place, records=RECORDS, kinds=KINDS)
        with self.assertRaises(NoSuchVariable):
            kind_at(("n", ()), records=RECORDS, kinds={})

    def test_no_such_step(self):
        for at in range(12):
            for wrong in (0, "value" if LONG[at] != "next" else "other", "?" if LONG[at] != "?" else "^"):
                place = ("n", LONG[:at] + (wrong,) + LONG[at + 1:])
                with self.assertRaises(NoSuchStep):
                    kind_at(place, records=RECORDS, kinds=KINDS)
        for place in (("x", ("^",)), ("p", (0,)), ("p", ("^", 2)), ("p", ("^", -1)), ("m", (3,)), ("m", (0, 0))):
            for ask in (kind_at, crossed, crosses_shared, place_leaves):
                with self.assertRaises(NoSuchStep):
                    ask(place, records=RECORDS, kinds=KINDS)

    def test_the_rest_is_passed_by_keyword_only(self):
        for ask in (kind_at, crossed):
            with self.assertRaises(TypeError):
                ask(("n", ()), RECORDS, KINDS)

    def test_the_dict_stays_as_it_was(self):
        kinds = collections.defaultdict(lambda: INT, KINDS)
        for place in (("n", LONG), ("m", (1, "^")), ("y", ()), ("x", ("^",))):
            for ask in (kind_at, crossed, crosses_shared, place_leaves):
                try:
                    ask(place, records=RECORDS, kinds=kinds)
                except (NoSuchVariable, NoSuchStep):
                    pass
                self.assertEqual(list(kinds.items()), list(KINDS.items()))


class Crossed(unittest.TestCase):
    def crosses(self, place, leaf):
        self.assertEqual(crossed(place, records=RECORDS, kinds=KINDS), leaf)

    def test_no_borrow_on_the_way(self):
        for length in range(13):
            self.assertIs(crossed(("n", LONG[:length]), records=RECORDS, kinds=KINDS), None)
        self.crosses(("m", (2, "^", "^")), None)

    def test_a_borrow_at_the_end_is_not_crossed(self):
        for place in (("r", ()), ("p", ()), ("m", ()), ("m", (0, "?")), ("m", (0, "?", 0)), ("m", (1,))):
            self.crosses(place, None)

    def test_a_borrow_that_is_crossed(self):
        self.crosses(("r", ("^",)), ("r", ()))
        self.crosses(("p", ("^", 1)), ("p", ()))
        self.crosses(("m", (0, "?", 0, "^")), ("m", (0, "?", 0)))
        self.crosses(("m", (0, "?", 0, "^", "value", 1)), ("m", (0, "?", 0)))
        self.crosses(("m", (1, "^", 0)), ("m", (1,)))

    def test_boxes_behind_the_borrow_do_not_count(self):
        self.crosses(("m", (1, "^", 0, "^")), ("m", (1,)))
        self.crosses(("r", ("^",) + LONG[:11]), ("r", ()))


class CrossesShared(unittest.TestCase):
    def test_only_a_shared_borrow_that_is_crossed_counts(self):
        cases = (
            (("p", ()), False), (("p", ("^",)), True), (("p", ("^", 1)), True), (("r", ()), False), (("r", ("^",)), False),
            (("r", ("^", "next", "?", "^")), False), (("m", (1,)), False), (("m", (1, "^")), True), (("m", (1, "^", 0, "^")), True),
            (("m", (0, "?", 0, "^")), False), (("m", (2, "^", "^")), False), (("n", LONG), False), (("x", ()), False),
        )
        for place, answer in cases:
            self.assertIs(crosses_shared(place, records=RECORDS, kinds=KINDS), answer)


class PlaceLeaves(unittest.TestCase):
    def test_the_steps_of_the_place_stand_in_front(self):
        cases = (
            (("m", ()), (("m", (0, "?", 0)), ("m", (1,)))), (("m", (0,)), (("m", (0, "?", 0)),)),
            (("m", (0, "?", 0)), (("m", (0, "?", 0)),)), (("m", (1, "^")), ()), (("m", (2,)), ()),
            (("r", ()), (("r", ()),)), (("x", ()), ()), (("n", LONG), ()),
        )
        for place, found in cases:
            self.assertEqual(place_leaves(place, records=RECORDS, kinds=KINDS), found)
