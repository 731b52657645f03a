import copy
import unittest

from lendback.errors import NoSuchFunction
from lendback.graph import Graph, build_graph
from lendback.parser import parse_program
from tests.lowering import lowered
from tests.valid import ValidMaker

INT, BOOL, UNIT = ("int",), ("bool",), ("unit",)
PRELUDE = (
    "record Pair { a: int, b: box int } fn give(a: &int, b: &mut int) -> &int from a { return a; } "
    "fn eat(p: Pair, n: int) -> unit { } "
)


def graph_of(text, name="main"):
    return build_graph(parse_program(text), name)


class Graphs(unittest.TestCase):
    def rows(self, text, points, successors, name="main"):
        graph = graph_of(text, name)
        self.assertEqual(graph.points, points)
        self.assertEqual(graph.successors, successors)
        return graph

    def straight(self, text, points, name="main"):
        """The points come one after the other, up to the last one."""
        return self.rows(text, points, [(at + 1,) for at in range(len(points) - 1)] + [()], name)


class Whole(Graphs):
    def test_the_program_of_section_49(self):
        text = "fn main(a: int) -> int { let x = (a, 2); let r = &mut x.0; r^ = 5; print x.0; return x.1; }"
        graph = self.rows(text, [
            ("copy", "#0", ("a", ())), ("set", "#1", ("int", 2)), ("make", "#2", "tuple", ("#0", "#1")), ("let", "x", "#2"),
            ("borrow", "#3", "exclusive", ("x", (0,))), ("let", "r", "#3"), ("set", "#4", ("int", 5)),
            ("store", ("r", ("^",)), "#4"), ("copy", "#5", ("x", (0,))), ("print", "#5"), ("copy", "#6", ("x", (1,))),
            ("drop", "r"), ("drop", "x"), ("drop", "a"), ("leave", "#6"), ("drop", "r"), ("drop", "x"), ("stop",),
        ], [(at + 1,) for at in range(14)] + [(), (16,), (17,), ()])
        two, borrow = ("tuple", (INT, INT)), ("exclusive", INT)
        self.assertEqual(graph.kinds, {"a": INT, "x": two, "r": borrow, "#0": INT, "#1": INT, "#2": two, "#3": borrow,
                                       "#4": INT, "#5": INT, "#6": INT})

    def test_attributes(self):
        text = PRELUDE + "fn main(n: int, y: bool) -> box int { return box n; }"
        graph = graph_of(text)
        self.assertIsInstance(graph, Graph)
        self.assertEqual((graph.name, graph.parameters, graph.sources, graph.result), ("main", ("n", "y"), (), ("box", INT)))
        self.assertEqual(graph.kinds, {"n": INT, "y": BOOL, "#0": INT, "#1": ("box", INT)})
        graph = graph_of(text, "give")
        self.assertEqual((graph.name, graph.parameters, graph.sources, graph.result),
                         ("give", ("a", "b"), ("a",), ("shared", INT)))
        self.assertEqual(graph.kinds, {"a": ("shared", INT), "b": ("exclusive", INT), "#0": ("shared", INT)})
        self.assertEqual([type(part) for part in (graph.parameters, graph.sources, graph.kinds, graph.points, graph.successors)],
                         [tuple, tuple, dict, list, list])
        self.assertEqual({type(part) for part in graph.points + graph.successors}, {tuple})

    def test_no_such_function(self):
        for name in ("f", "", "Main", "Pair", "mains", "#0"):
            with self.assertRaises(NoSuchFunction) as caught:
                graph_of(PRELUDE + "fn main() -> unit { }", name)
            self.assertEqual(caught.exception.name, name)

    def test_graphs_share_nothing(self):
        program = parse_program("fn main(n: int) -> unit { print n; }")
        first, second = build_graph(program, "main"), build_graph(program, "main")
        first.points.append("more")
        first.successors.clear()
        first.kinds["more"] = INT
        self.assertEqual(len(second.points), len(second.successors))
        self.assertEqual(second.kinds, {"n": INT, "#0": INT, "#1": UNIT})
        self.assertEqual(build_graph(program, "main").points, second.points)


class Ends(Graphs):
    def test_of_a_function_with_the_result_unit(self):
        self.straight("fn main() -> unit { }", [("set", "#0", ("unit",)), ("leave", "#0")])
        self.straight("fn main(a: int, b: int, c: bool) -> unit { let x = a; let y = 2; }", [
            ("copy", "#0", ("a", ())), ("let", "x", "#0"), ("set", "#1", ("int", 2)), ("let", "y", "#1"), ("drop", "y"),
            ("drop", "x"), ("set", "#2", ("unit",)), ("drop", "c"), ("drop", "b"), ("drop", "a"), ("leave", "#2"),
        ])

    def test_of_a_function_with_another_result(self):
        self.straight("fn main() -> int { }", [("stop",)])
        self.straight("fn main(a: int) -> (unit, unit) { let x = 1; }",
                      [("set", "#0", ("int", 1)), ("let", "x", "#0"), ("drop", "x"), ("stop",)])

    def test_that_cannot_be_reached(self):
        self.rows("fn main(a: int) -> unit { let x = 1; return unit; let y = 2; }", [
            ("set", "#0", ("int", 1)), ("let", "x", "#0"), ("set", "#1", ("unit",)), ("drop", "x"), ("drop", "a"),
            ("leave", "#1"), ("set", "#2", ("int", 2)), ("let", "y", "#2"), ("drop", "y"), ("drop", "x"),
            ("set", "#3", ("unit",)), ("drop", "a"), ("leave", "#3"),
        ], [(1,), (2,), (3,), (4,), (5,), ()] + [(at + 1,) for at in range(6, 12)] + [()])

    def test_two_returns_behind_one_another(self):
        self.rows("fn main() -> int { return 1; return 2; }", [
            ("set", "#0", ("int", 1)), ("leave", "#0"), ("set", "#1", ("int", 2)), ("leave", "#1"), ("stop",),
        ], [(1,), (), (3,), (), ()])

    def test_return_drops_what_is_in_scope(self):
        self.rows("""fn main(a: int, y: bool) -> int {
            let b = 1; if y { let c = 2; while y { let d = 3; return 4; } let e = 5; } else { return 6; } let f = 7; }""", [
            ("set", "#0", ("int", 1)), ("let", "b", "#0"), ("copy", "#1", ("y", ())), ("test", "#1"),
            ("set", "#2", ("int", 2)), ("let", "c", "#2"), ("copy", "#3", ("y", ())), ("test", "#3"),
            ("set", "#4", ("int", 3)), ("let", "d", "#4"), ("set", "#5", ("int", 4)), ("drop", "d"), ("drop", "c"),
            ("drop", "b"), ("drop", "y"), ("drop", "a"), ("leave", "#5"), ("drop", "d"), ("jump",),
            ("set", "#6", ("int", 5)), ("let", "e", "#6"), ("drop", "e"), ("drop", "c"), ("jump",),
            ("set", "#7", ("int", 6)), ("drop", "b"), ("drop", "y"), ("drop", "a"), ("leave", "#7"),
            ("set", "#8", ("int", 7)), ("let", "f", "#8"), ("drop", "f"), ("drop", "b"), ("stop",),
        ], [(1,), (2,), (3,), (4, 24), (5,), (6,), (7,), (8, 19), (9,), (10,), (11,), (12,), (13,), (14,), (15,), (16,), (),
            (18,), (6,), (20,), (21,), (22,), (23,), (29,), (25,), (26,), (27,), (28,), (), (30,), (31,), (32,), (33,), ()])


class Expressions(Graphs):
    def last(self, text, *rows, kind):
        """`do` of an expression gives these instructions, and a last temporary of this kind."""
        graph = graph_of(PRELUDE + f"""fn main(i: int, c: bool) -> int {{
            let b = box box 1; let m = some (i, box 1); let p = Pair(1, box 2); let r = &mut i; let s = &p; do {text}; }}""")
        at = graph.points.index(("let", "s", "#13")) + 1
        self.assertEqual(graph.points[at:at + len(rows) + 1], list(rows) + [("drop", rows[-1][1])])
        self.assertEqual(graph.points[at + len(rows) + 1:],
                         [("drop", "s"), ("drop", "r"), ("drop", "p"), ("drop", "m"), ("drop", "b"), ("stop",)])
        self.assertEqual(graph.kinds[rows[-1][1]], kind)

    def test_values(self):
        self.last("5", ("set", "#14", ("int", 5)), kind=INT)
        self.last("-5", ("set", "#14", ("int", -5)), kind=INT)
        self.last("true", ("set", "#14", ("bool", True)), kind=BOOL)
        self.last("false", ("set", "#14", ("bool", False)), kind=BOOL)
        self.last("unit", ("set", "#14", ("unit",)), kind=UNIT)
        self.last("none[&Pair]", ("set", "#14", ("none", ("shared", ("record", "Pair")))),
                  kind=("maybe", ("shared", ("record", "Pair"))))

    def test_made_values(self):
        one = ("set", "#14", ("int", 1))
        self.last("some 1", one, ("make", "#15", "some", ("#14",)), kind=("maybe", INT))
        self.last("box 1", one, ("make", "#15", "box", ("#14",)), kind=("box", INT))
        self.last("(1, c)", one, ("copy", "#15", ("c", ())), ("make", "#16", "tuple", ("#14", "#15")),
                  kind=("tuple", (INT, BOOL)))
        self.last("Pair(1, box 2)", one, ("set", "#15", ("int", 2)), ("make", "#16", "box", ("#15",)),
                  ("make", "#17", "Pair", ("#14", "#16")), kind=("record", "Pair"))
        self.last("unbox box 1", one, ("make", "#15", "box", ("#14",)), ("unbox", "#16", "#15"), kind=INT)
        self.last("(1, 2, 3, 4, 5, 6)", one, *[("set", f"#{13 + at}", ("int", at)) for at in range(2, 7)],
                  ("make", "#20", "tuple", tuple([f"#{at}" for at in range(14, 20)])), kind=("tuple", (INT,) * 6))

    def test_places(self):
        self.last("i", ("copy", "#14", ("i", ())), kind=INT)
        self.last("b^^", ("copy", "#14", ("b", ("^", "^"))), kind=INT)
        self.last("s", ("copy", "#14", ("s", ())), kind=("shared", ("record", "Pair")))
        self.last("s^.a", ("copy", "#14", ("s", ("^", "a"))), kind=INT)
        self.last("m?.0", ("copy", "#14", ("m", ("?", 0))), kind=INT)
        self.last("b", ("move", "#14", ("b", ())), kind=("box", ("box", INT)))
        self.last("m?.1", ("move", "#14", ("m", ("?", 1))), kind=("box", INT))
        self.last("m", ("move", "#14", ("m", ())), kind=("maybe", ("tuple", (INT, ("box", INT)))))
        self.last("p", ("move", "#14", ("p", ())), kind=("record", "Pair"))
        self.last("p.b", ("move", "#14", ("p", ("b",))), kind=("box", INT))
        self.last("r", ("move", "#14", ("r", ())), kind=("exclusive", INT))
        self.last("m is some", ("is", "#14", ("m", ())), kind=BOOL)
        self.last("&p.b", ("borrow", "#14", "shared", ("p", ("b",))), kind=("shared", ("box", INT)))
        self.last("&mut m?", ("borrow", "#14", "exclusive", ("m", ("?",))), kind=("exclusive", ("tuple", (INT, ("box", INT)))))
        self.last("&s^.b^", ("borrow", "#14", "shared", ("s", ("^", "b", "^"))), kind=("shared", INT))
        self.last("swap r^ with 3", ("set", "#14", ("int", 3)), ("swap", "#15", ("r", ("^",)), "#14"), kind=INT)
        self.last("swap b^ with box 3", ("set", "#14", ("int", 3)), ("make", "#15", "box", ("#14",)),
                  ("swap", "#16", ("b", ("^",)), "#15"), kind=("box", INT))

    def test_operations(self):
        for sign in ("+", "-", "*", "<", "=="):
            self.last(f"(i {sign} 2)", ("copy", "#14", ("i", ())), ("set", "#15", ("int", 2)), ("op", "#16", sign, "#14", "#15"),
                      kind=INT if sign in "+-*" else BOOL)
        for sign in ("and", "or"):
            self.last(f"(c {sign} not c)", ("copy", "#14", ("c", ())), ("copy", "#15", ("c", ())), ("not", "#16", "#15"),
                      ("op", "#17", sign, "#14", "#16"), kind=BOOL)

    def test_calls(self):
        self.last("give(&i, r)", ("borrow", "#14", "shared", ("i", ())), ("move", "#15", ("r", ())),
                  ("call", "#16", "give", ("#14", "#15")), kind=("shared", INT))
        self.last("eat(p, main(1, c))", ("move", "#14", ("p", ())), ("set", "#15", ("int", 1)), ("copy", "#16", ("c", ())),
                  ("call", "#17", "main", ("#15", "#16")), ("call", "#18", "eat", ("#14", "#17")), kind=UNIT)

    def test_parts_come_from_the_left_to_the_right_and_before_the_whole(self):
        self.last("((1 + 2), (3 * (4 - 5)))", ("set", "#14", ("int", 1)), ("set", "#15", ("int", 2)),
                  ("op", "#16", "+", "#14", "#15"), ("set", "#17", ("int", 3)), ("set", "#18", ("int", 4)), ("set", "#19", ("int", 5)),
                  ("op", "#20", "-", "#18", "#19"), ("op", "#21", "*", "#17", "#20"), ("make", "#22", "tuple", ("#16", "#21")),
                  kind=("tuple", (INT, INT)))


class Statements(Graphs):
    def test_let_store_print_and_do(self):
        self.straight("fn main(a: int) -> unit { let x = (a, 1); x.0 = 2; print x.1; do x; x = x; }", [
            ("copy", "#0", ("a", ())), ("set", "#1", ("int", 1)), ("make", "#2", "tuple", ("#0", "#1")), ("let", "x", "#2"),
            ("set", "#3", ("int", 2)), ("store", ("x", (0,)), "#3"), ("copy", "#4", ("x", (1,))), ("print", "#4"),
            ("copy", "#5", ("x", ())), ("drop", "#5"), ("copy", "#6", ("x", ())), ("store", ("x", ()), "#6"), ("drop", "x"),
            ("set", "#7", ("unit",)), ("drop", "a"), ("leave", "#7"),
        ])

    def test_if(self):
        self.rows("fn main(y: bool) -> int { if y { print 1; } else { print 2; } print 3; }", [
            ("copy", "#0", ("y", ())), ("test", "#0"), ("set", "#1", ("int", 1)), ("print", "#1"), ("jump",),
            ("set", "#2", ("int", 2)), ("print", "#2"), ("set", "#3", ("int", 3)), ("print", "#3"), ("stop",),
        ], [(1,), (2, 5), (3,), (4,), (7,), (6,), (7,), (8,), (9,), ()])

    def test_if_with_empty_blocks(self):
        self.rows("fn main() -> int { if true { } else { } }", [("set", "#0", ("bool", True)), ("test", "#0"), ("jump",), ("stop",)],
                  [(1,), (2, 3), (3,), ()])
        self.rows("fn main() -> int { if true { print 1; } else { } }", [
            ("set", "#0", ("bool", True)), ("test", "#0"), ("set", "#1", ("int", 1)), ("print", "#1"), ("jump",), ("stop",),
        ], [(1,), (2, 5), (3,), (4,), (5,), ()])

    def test_while(self):
        self.rows("fn main(n: int) -> int { print 7; while (0 < n) { n = 0; } print 8; }", [
            ("set", "#0", ("int", 7)), ("print", "#0"), ("set", "#1", ("int", 0)), ("copy", "#2", ("n", ())),
            ("op", "#3", "<", "#1", "#2"), ("test", "#3"), ("set", "#4", ("int", 0)), ("store", ("n", ()), "#4"), ("jump",),
            ("set", "#5", ("int", 8)), ("print", "#5"), ("stop",),
        ], [(1,), (2,), (3,), (4,), (5,), (6, 9), (7,), (8,), (2,), (10,), (11,), ()])
        self.rows("fn main() -> int { while true { } }", [("set", "#0", ("bool", True)), ("test", "#0"), ("jump",), ("stop",)],
                  [(1,), (2, 3), (0,), ()])

    def test_blocks_drop_their_own_variables(self):
        self.rows("fn main() -> int { let a = 1; if true { let b = 2; let c = 3; } else { let d = 4; } while true { let e = 5; } }", [
            ("set", "#0", ("int", 1)), ("let", "a", "#0"), ("set", "#1", ("bool", True)), ("test", "#1"),
            ("set", "#2", ("int", 2)), ("let", "b", "#2"), ("set", "#3", ("int", 3)), ("let", "c", "#3"), ("drop", "c"),
            ("drop", "b"), ("jump",), ("set", "#4", ("int", 4)), ("let", "d", "#4"), ("drop", "d"),
            ("set", "#5", ("bool", True)), ("test", "#5"), ("set", "#6", ("int", 5)), ("let", "e", "#6"), ("drop", "e"), ("jump",),
            ("drop", "a"), ("stop",),
        ], [(1,), (2,), (3,), (4, 11), (5,), (6,), (7,), (8,), (9,), (10,), (14,), (12,), (13,), (14,), (15,), (16, 20), (17,),
            (18,), (19,), (14,), (21,), ()])

    def test_blocks_within_one_another(self):
        for count in (1, 11, 40):
            graph = graph_of("fn main() -> int { " + "while true { " * count + "print 1;" + " }" * count + " }")
            self.assertEqual(graph.points, [row for at in range(count) for row in (("set", f"#{at}", ("bool", True)), ("test", f"#{at}"))]
                             + [("set", f"#{count}", ("int", 1)), ("print", f"#{count}")] + [("jump",)] * count + [("stop",)])
            tests = [graph.successors[2 * at + 1] for at in range(count)]
            self.assertEqual(tests, [(2 * at + 2, 3 * count + 2 - at) for at in range(count)])
            jumps = graph.successors[2 * count + 2:3 * count + 2]
            self.assertEqual(jumps, [(2 * at,) for at in range(count - 1, -1, -1)])


    def test_deep_expressions_in_deep_blocks(self):
        text = "fn main() -> int { " + "if true { } else { " * 45 + "print " + "(1 + " * 45 + "2" + ")" * 45 + ";" + " }" * 45 + " }"
        graph = graph_of(text)
        points, successors, kinds = lowered(parse_program(text), "main")
        self.assertEqual((graph.points, graph.successors, graph.kinds), (points, successors, kinds))
        self.assertEqual(len(points), 45 * 3 + 45 + 1 + 45 + 1 + 1)


class RandomPrograms(Graphs):
    def test_they_have_the_graphs_that_the_document_asks_for(self):
        words = {}
        for seed in range(250):
            program = ValidMaker(seed).program()
            before = copy.deepcopy(program)
            for function in program[1]:
                graph = build_graph(program, function[0])
                points, successors, kinds = lowered(program, function[0])
                self.assertEqual(repr(graph.points), repr(points))
                self.assertEqual(graph.successors, successors)
                self.assertEqual(graph.kinds, kinds)
                self.assertEqual((graph.name, graph.result, graph.sources), (function[0], function[2], function[3]))
                self.assertEqual(graph.parameters, tuple([name for name, _ in function[1]]))
                self.assertEqual(vars(build_graph(program, function[0])), vars(graph))
                words.update({row[0]: True for row in points})
            self.assertEqual(program, before)
        self.assertEqual(sorted(words), sorted(
            "set make unbox copy move borrow is swap op not call let store print drop test jump leave stop".split()))

    def test_every_point_but_an_end_has_successors_within_the_graph(self):
        for seed in range(100):
            program = ValidMaker(seed).program()
            for function in program[1]:
                graph = build_graph(program, function[0])
                for row, targets in zip(graph.points, graph.successors):
                    self.assertEqual(len(targets), {"test": 2, "leave": 0, "stop": 0}.get(row[0], 1))
                    self.assertTrue(all(0 <= target < len(graph.points) for target in targets))
