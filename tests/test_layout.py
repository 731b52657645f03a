import copy
import unittest

from lendback.errors import NoSuchStep
from lendback.graph import build_graph
from lendback.kinding import check_kinds
from lendback.layout import frame, offset, size
from lendback.parser import parse_program
from tests.kind_problems import of_cells
from tests.valid import ValidMaker, kind_cells, parts_with_steps

INT, BOOL, UNIT = ("int",), ("bool",), ("unit",)
PAIR, NODE = ("record", "Pair"), ("record", "Node")
RECORDS = (
    ("Node", (("next", ("maybe", ("box", NODE))), ("pair", PAIR), ("last", ("maybe", PAIR)))),
    ("Pair", (("a", INT), ("b", ("tuple", (BOOL, ("box", PAIR)))))),
)
# 60 cells in a kind of few levels.
SIX = ("tuple", (INT, BOOL, UNIT, ("box", INT), ("shared", INT), ("exclusive", INT)))
SIXTY = ("tuple", (("tuple", (SIX, SIX)), ("tuple", (SIX, SIX)), ("tuple", (SIX, SIX)), ("tuple", (SIX, SIX)), SIX, SIX))


class Size(unittest.TestCase):
    def test_every_kind(self):
        cases = (
            (INT, 1), (BOOL, 1), (UNIT, 1), (("box", INT), 1), (("box", NODE), 1), (("shared", NODE), 1),
            (("exclusive", PAIR), 1), (("maybe", INT), 2), (("maybe", ("maybe", UNIT)), 3), (("tuple", (INT, BOOL)), 2),
            (("tuple", (INT, ("maybe", BOOL), ("box", ("tuple", (INT, INT))))), 4), (PAIR, 3), (NODE, 9),
            (("maybe", NODE), 10), (("tuple", (NODE, ("tuple", (PAIR, INT)))), 13), (SIX, 6), (SIXTY, 60),
            (("maybe", ("tuple", (SIX, SIX))), 13), (("box", SIXTY), 1),
        )
        for kind, count in cases:
            self.assertEqual(size(RECORDS, kind), count, kind)
            self.assertEqual(size(RECORDS[::-1], kind), count, kind)

    def test_kinds_of_random_programs(self):
        for seed in range(100):
            records, functions = ValidMaker(seed).program()
            kinds = [("record", name) for name, _ in records] + [kind for _, fields in records for _, kind in fields]
            kinds += [kind for function in functions for _, kind in function[1]] + [function[2] for function in functions]
            for kind in kinds:
                self.assertEqual(size(records, kind), kind_cells(records, kind))


class Offset(unittest.TestCase):
    def test_every_kind(self):
        cases = (
            (("tuple", (INT, BOOL)), 0, 0), (("tuple", (INT, BOOL)), 1, 1), (("tuple", (PAIR, ("maybe", INT), NODE)), 1, 3),
            (("tuple", (PAIR, ("maybe", INT), NODE)), 2, 5), (("maybe", NODE), "?", 1), (("maybe", ("maybe", INT)), "?", 1),
            (PAIR, "a", 0), (PAIR, "b", 1), (NODE, "next", 0), (NODE, "pair", 2), (NODE, "last", 5), (SIXTY, 0, 0),
            (SIXTY, 1, 12), (SIXTY, 4, 48), (SIXTY, 5, 54), (SIX, 5, 5), (("tuple", (("box", SIXTY), ("shared", NODE), INT)), 2, 2),
        )
        for kind, step, expected in cases:
            self.assertEqual(offset(RECORDS, kind, step), expected, (kind, step))
            self.assertEqual(offset(RECORDS[::-1], kind, step), expected)

    def test_steps_that_do_not_fit(self):
        kinds = (INT, BOOL, UNIT, ("box", INT), ("box", ("tuple", (INT, INT))), ("shared", PAIR), ("exclusive", PAIR),
                 ("maybe", INT), ("tuple", (INT, BOOL)), PAIR, SIXTY)
        fitting = {("maybe", INT): ("?",), ("tuple", (INT, BOOL)): (0, 1), PAIR: ("a", "b"), SIXTY: (0, 1, 5)}
        for kind in kinds:
            for step in ("^", "?", -1, -2, 0, 1, 2, 5, 6, 60, "a", "b", "c", "next", "Pair", ""):
                if step == 2 and kind == SIXTY or step in fitting.get(kind, ()):
                    continue
                with self.assertRaises(NoSuchStep, msg=(kind, step)):
                    offset(RECORDS, kind, step)

    def test_a_step_through_a_box_or_a_borrow(self):
        for kind in (("box", INT), ("shared", INT), ("exclusive", PAIR), ("tuple", (INT, INT)), PAIR, ("maybe", ("box", INT))):
            with self.assertRaises(NoSuchStep):
                offset(RECORDS, kind, "^")

    def test_kinds_of_random_programs(self):
        for seed in range(60):
            records, functions = ValidMaker(seed).program()
            before = copy.deepcopy(records)
            kinds = [("record", name) for name, _ in records] + [function[2] for function in functions]
            for kind in kinds:
                end = 1 if kind[0] == "maybe" else 0
                for step, part in parts_with_steps(records, kind):
                    if step != "^":
                        self.assertEqual(offset(records, kind, step), end)
                        end += kind_cells(records, part)
            self.assertEqual(records, before)


class Frame(unittest.TestCase):
    def frame(self, text, name="main"):
        program = parse_program(text)
        check_kinds(program)
        graph = build_graph(program, name)
        before = copy.deepcopy((program, vars(graph)))
        found = frame(program, graph)
        self.assertEqual(frame(program, graph), found)
        self.assertEqual((program, vars(graph)), before)
        return found

    def test_parameters_first_then_as_they_appear(self):
        self.assertEqual(self.frame("fn main(n: int, b: bool) -> unit { let x = (n, 2); print x.1; }"), {
            "n": 0, "b": 1, "#0": 2, "#1": 3, "#2": 4, "x": 6, "#3": 8, "#4": 9, "": 10,
        })

    def test_unused_parameters_and_variables_of_several_blocks(self):
        found = self.frame("fn main(n: int, c: bool) -> int { if c { let y = some n; } else { let z = n; } return 1; let x = 2; }")
        self.assertEqual(found, {"n": 0, "c": 1, "#0": 2, "#1": 3, "#2": 4, "y": 6, "#3": 8, "z": 9, "#4": 10, "#5": 11, "x": 12, "": 13})

    def test_parameters_are_not_in_the_order_of_their_use(self):
        found = self.frame("fn f(a: &int, b: (int, int), c: maybe int) -> unit { do c; do b; do a; } fn main() -> unit { }", "f")
        self.assertEqual(found, {"a": 0, "b": 1, "c": 3, "#0": 5, "#1": 7, "#2": 9, "#3": 10, "": 11})

    def test_a_block_has_at_least_one_cell(self):
        self.assertEqual(self.frame("fn f() -> int { } fn main() -> unit { }", "f"), {"": 1})
        self.assertEqual(self.frame("fn f(a: int) -> int { } fn main() -> unit { }", "f"), {"a": 0, "": 1})
        self.assertEqual(self.frame("fn main() -> unit { }"), {"#0": 0, "": 1})

    def test_a_kind_of_60_cells(self):
        text = f"fn f(a: {of_cells(60)}, b: int, c: {of_cells(60)}) -> unit {{ do c.0; do a; }} fn main() -> unit {{ }}"
        self.assertEqual(self.frame(text, "f"), {"a": 0, "b": 60, "c": 61, "#0": 121, "#1": 131, "#2": 191, "": 192})

    def test_records(self):
        found = self.frame("record Pair { a: int, b: (bool, int) } fn main() -> Pair { return Pair(1, (true, 2)); }")
        self.assertEqual(found, {"#0": 0, "#1": 1, "#2": 2, "#3": 3, "#4": 5, "": 8})

    def test_random_programs(self):
        for seed in range(80):
            program = ValidMaker(seed).program()
            for function in program[1]:
                graph = build_graph(program, function[0])
                found = frame(program, graph)
                self.assertEqual(set(found), set(graph.kinds) | {""})
                words = [word for row in graph.points for word in row[1:2] if isinstance(word, str) and word in graph.kinds]
                rows = list(dict.fromkeys(list(graph.parameters) + words))
                end = 0
                for name in rows:
                    self.assertEqual(found[name], end)
                    end += kind_cells(program[0], graph.kinds[name])
                self.assertEqual(found[""], max(1, end))
