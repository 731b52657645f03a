import unittest

from lendback.layout import size
from tests.valid import ValidMaker, kind_cells

INT, BOOL, UNIT = ("int",), ("bool",), ("unit",)
PAIR, NODE = ("record", "Pair"), ("record", "Node")
RECORDS = (
    ("Node", (("next", ("maybe", ("box", NODE))), ("pair", PAIR), ("last", ("maybe", PAIR)))),
    ("Pair", (("a", INT), ("b", ("tuple", (BOOL, ("box", PAIR)))))),
)


class Size(unittest.TestCase):
    def test_every_kind(self):
        cases = (
            (INT, 1), (BOOL, 1), (UNIT, 1), (("box", INT), 1), (("box", NODE), 1), (("shared", NODE), 1),
            (("exclusive", PAIR), 1), (("maybe", INT), 2), (("maybe", ("maybe", UNIT)), 3), (("tuple", (INT, BOOL)), 2),
            (("tuple", (INT, ("maybe", BOOL), ("box", ("tuple", (INT, INT))))), 4), (PAIR, 3), (NODE, 9),
            (("maybe", NODE), 10), (("tuple", (NODE, ("tuple", (PAIR, INT)))), 13),
        )
        for kind, count in cases:
            self.assertEqual(size(RECORDS, kind), count, kind)
            self.assertEqual(size(RECORDS[::-1], kind), count, kind)

    def test_kinds_of_random_programs(self):
        for seed in range(100):
            records, functions = ValidMaker(seed).program()
            kinds = [("record", name) for name, _ in records] + [kind for _, fields in records for _, kind in fields]
            kinds += [kind for function in functions for _, kind in function[1]] + [function[2] for function in functions]
            for kind in kinds:
                self.assertEqual(size(records, kind), kind_cells(records, kind))
