"""The interface of the document: its names, arguments and examples."""

import copy
import importlib
import inspect
import unittest

from lendback.errors import KindProblem, NoSuchStep, SyntaxProblem
from lendback.graph import build_graph
from lendback.kinding import check_kinds
from lendback.kinds import is_copy, kind_after, leaves
from lendback.layout import size
from lendback.parser import parse_program
from lendback.places import crossed
from lendback.writer import write_program

INTERFACE = {
    "errors": {
        "LendError": None, "SyntaxProblem": "(line, column)", "KindProblem": "(where, reason)",
        "NoSuchFunction": "(name)", "NotAllocated": "(address)", "NoSuchStep": None, "NoSuchVariable": None,
        "Refused": None,
    },
    "kinds": {
        "is_plain": "(kind)", "is_copy": "(kind)", "levels": "(kind)", "leaves": "(kind)",
        "kind_after": "(records, kind, step)",
    },
    "places": {
        "is_prefix": "(first, second)", "overlap": "(first, second)", "kind_at": "(place, *, records, kinds)",
        "crossed": "(place, *, records, kinds)",
    },
    "parser": {"parse_program": "(text)"},
    "writer": {"write_program": "(program)"},
    "kinding": {"check_kinds": "(program)"},
    "graph": {"Graph": None, "build_graph": "(program, name)"},
    "effects": {
        "loans": "(program, graph)", "uses": "(program, graph, point)", "clears": "(program, graph, point)",
        "access": "(program, graph, point)", "moves": "(program, graph, point)", "conflicts": "(access, loan, crossing)",
    },
    "layout": {"size": "(records, kind)"},
}


class Names(unittest.TestCase):
    def test_everything_is_defined_in_its_file_with_its_arguments(self):
        for file, names in INTERFACE.items():
            module = importlib.import_module("lendback." + file)
            for name, arguments in names.items():
                found = getattr(module, name)
                self.assertEqual(found.__module__, "lendback." + file)
                self.assertEqual(found.__qualname__, name)
                if arguments is not None:
                    self.assertEqual(str(inspect.signature(found)), arguments)


class Examples(unittest.TestCase):
    def test_leaves(self):
        kind = ("tuple", (("shared", ("int",)), ("maybe", ("exclusive", ("bool",)))))
        self.assertEqual(repr(leaves(kind)), "((0,), (1, '?'))")

    def test_is_copy(self):
        kinds = (("maybe", ("shared", ("int",))), ("maybe", ("exclusive", ("int",))))
        self.assertEqual(repr([is_copy(kind) for kind in kinds]), "[True, False]")

    def test_kind_after(self):
        with self.assertRaises(NoSuchStep):
            kind_after((), ("maybe", ("int",)), "^")

    def test_crossed(self):
        kinds = {"p": ("shared", ("tuple", (("int",), ("bool",))))}
        self.assertEqual(repr(crossed(("p", ("^", 0)), records=(), kinds=kinds)), "('p', ())")

    def test_parse_program(self):
        tree = "((), (('main', (), ('unit',), (), (('print', ('op', '+', ('int', 1), ('int', -2))),)),))"
        self.assertEqual(repr(parse_program("fn main() -> unit { print (1 + -2); }")), tree)

    def test_parse_program_that_ends_too_early(self):
        with self.assertRaises(SyntaxProblem) as caught:
            parse_program("fn main() -> unit {\n  print 1\n}")
        self.assertEqual((caught.exception.line, caught.exception.column), (3, 1))

    def test_write_program(self):
        records = (("Pair", (("a", ("int",)), ("b", ("box", ("int",))))),)
        self.assertEqual(write_program((records, ())), "record Pair { a: int, b: box int }\n")
        block = (("store", ("r", ("^",)), ("int", -5)),)
        functions = (("f", (("r", ("exclusive", ("int",))),), ("unit",), (), block),)
        self.assertEqual(write_program(((), functions)), "fn f(r: &mut int) -> unit {\n    r^ = -5;\n}\n")

    def test_check_kinds(self):
        for text, reason in (
            ("fn main() -> int { let x = 1; return (x + y); }", "unknown"),
            ("fn main() -> unit { let b = box box 1; do b^; }", "move"),
        ):
            with self.assertRaises(KindProblem) as caught:
                check_kinds(parse_program(text))
            self.assertEqual((caught.exception.where, caught.exception.reason), ("main", reason))

    def test_build_graph(self):
        graph = build_graph(parse_program("fn main(n: int) -> unit { print n; }"), "main")
        self.assertEqual(repr([graph.points, graph.successors]),
                         "[[('copy', '#0', ('n', ())), ('print', '#0'), ('set', '#1', ('unit',)), ('drop', 'n'), "
                         "('leave', '#1')], [(1,), (2,), (3,), (4,), ()]]")

    def test_size(self):
        kind = ("tuple", (("int",), ("maybe", ("bool",)), ("box", ("tuple", (("int",), ("int",))))))
        self.assertEqual(size((), kind), 4)

    def test_the_programs_of_the_examples_pass(self):
        heads = "fn first(a: &int, b: &int) -> &int from a { return a; }\n"
        for text in (
            heads + "fn main() -> int { let x = 1; let y = 2; let r = first(&x, &y); y = 5; return r^; }\n",
            heads + "fn main() -> int { let x = 1; let y = 2; let r = first(&x, &y); x = 5; return r^; }\n",
            "fn f(a: &int) -> &int from a { return a; } fn main() -> unit { }",
            "fn main(n: int) -> int { let s = 0; while (0 < n) { s = (s + n); print s; n = (n - 1); } return s; }",
            "fn main() -> int { let m = none[int]; return m?; }", "fn main() -> box int { return box 7; }",
        ):
            self.assertIsNone(check_kinds(parse_program(text)))

    def test_the_program_of_section_49(self):
        text = "fn main(a: int) -> int {\n    let x = (a, 2);\n    let r = &mut x.0;\n    r^ = 5;\n" \
            "    print x.0;\n    return x.1;\n}\n"
        self.assertEqual(write_program(parse_program(text)), text)
        self.assertIsNone(check_kinds(parse_program(text)))
        self.assertEqual(parse_program(text), ((), (("main", (("a", ("int",)),), ("int",), (), (
            ("let", "x", ("tuple", (("use", ("a", ())), ("int", 2)))),
            ("let", "r", ("borrow", "exclusive", ("x", (0,)))),
            ("store", ("r", ("^",)), ("int", 5)),
            ("print", ("use", ("x", (0,)))),
            ("return", ("use", ("x", (1,)))),
        )),)))


class Arguments(unittest.TestCase):
    def test_calls_change_nothing_and_repeat_themselves(self):
        records = (("Pair", (("a", ("int",)), ("b", ("box", ("int",))))),)
        kinds = {"p": ("shared", ("record", "Pair")), "x": ("int",)}
        before = copy.deepcopy((records, kinds))
        for _ in range(3):
            self.assertEqual(crossed(("p", ("^", "b", "^")), records=records, kinds=kinds), ("p", ()))
            self.assertEqual(kind_after(records, ("record", "Pair"), "a"), ("int",))
            self.assertEqual((records, kinds), before)

    def test_a_problem_leaves_nothing_behind(self):
        text = "fn f() -> int { print 1; }"
        tree = parse_program(text)
        for _ in range(3):
            with self.assertRaises(SyntaxProblem):
                parse_program(text[:-1])
            self.assertEqual(parse_program(text), tree)
