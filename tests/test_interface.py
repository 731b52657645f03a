"""The interface of the document: its names, arguments and examples."""

import copy
import importlib
import inspect
import unittest

from lendback.checker import check_program
from lendback.errors import KindProblem, NoSuchStep, SyntaxProblem
from lendback.graph import build_graph
from lendback.kinding import check_kinds
from lendback.kinds import is_copy, kind_after, leaves
from lendback.layout import size
from lendback.marks import first_marks, new_marks, pass_mark, problems
from lendback.memory import Memory
from lendback.memorymachine import run_memory, trace_memory
from lendback.parser import parse_program
from lendback.places import crossed
from lendback.project import Project
from lendback.valuemachine import run_values
from lendback.writer import write_program

INTERFACE = {
    "errors": {
        "LendError": None, "SyntaxProblem": "(line, column)", "KindProblem": "(where, reason)",
        "NoSuchFunction": "(name)", "NotAllocated": "(address)", "NoSuchStep": None, "NoSuchVariable": None,
        "Refused": None,
    },
    "kinds": {
        "is_plain": "(kind)", "is_copy": "(kind)", "levels": "(kind)", "leaves": "(kind)",
        "kind_after": "(records, kind, step)",
    },
    "places": {
        "is_prefix": "(first, second)", "overlap": "(first, second)", "kind_at": "(place, *, records, kinds)",
        "crossed": "(place, *, records, kinds)",
    },
    "parser": {"parse_program": "(text)"},
    "writer": {"write_program": "(program)"},
    "kinding": {"check_kinds": "(program)"},
    "graph": {"Graph": None, "build_graph": "(program, name)"},
    "effects": {
        "loans": "(program, graph)", "uses": "(program, graph, point)", "clears": "(program, graph, point)",
        "access": "(program, graph, point)", "moves": "(program, graph, point)", "conflicts": "(access, loan, crossing)",
    },
    "marks": {
        "first_marks": "(program, graph)", "pass_mark": "(program, graph, point, mark)",
        "new_marks": "(program, graph, point)", "problems": "(program, graph, point, mark)",
    },
    "search": {"shortest": "(start, following, wanted)"},
    "checker": {"check_function": "(program, name)", "check_program": "(program)"},
    "valuemachine": {"run_values": "(program, arguments, limit)"},
    "memory": {"Memory": "()"},
    "layout": {"size": "(records, kind)", "offset": "(records, kind, step)", "frame": "(program, graph)"},
    "memorymachine": {
        "run_memory": "(program, arguments, limit)", "trace_memory": "(program, arguments, limit)",
    },
    "project": {"Project": "(program)"},
}
METHODS = {
    Memory: {
        "allocate": "(self, size)", "release": "(self, address)", "read": "(self, address)",
        "write": "(self, address, number)", "blocks": "(self)",
    },
    Project: {"replace": "(self, function)", "verdict": "(self, name)", "checked": "(self)", "program": "(self)"},
}
FIRST = "fn first(a: &int, b: &int) -> &int from a { return a; }\n"
USE_OF_FIRST = "fn main() -> int { let x = 1; let y = 2; let r = first(&x, &y); %s = 5; return r^; }\n"
LOOP = "fn main(n: int) -> int { let s = 0; while (0 < n) { s = (s + n); print s; n = (n - 1); } return s; }"


class Names(unittest.TestCase):
    def test_everything_is_defined_in_its_file_with_its_arguments(self):
        for file, names in INTERFACE.items():
            module = importlib.import_module("lendback." + file)
            for name, arguments in names.items():
                found = getattr(module, name)
                self.assertEqual(found.__module__, "lendback." + file)
                self.assertEqual(found.__qualname__, name)
                if arguments is not None:
                    self.assertEqual(str(inspect.signature(found)), arguments)

    def test_each_method_is_defined_in_its_class(self):
        for found, methods in METHODS.items():
            for name, arguments in methods.items():
                self.assertEqual(str(inspect.signature(vars(found)[name])), arguments)


class Examples(unittest.TestCase):
    def test_leaves(self):
        kind = ("tuple", (("shared", ("int",)), ("maybe", ("exclusive", ("bool",)))))
        self.assertEqual(repr(leaves(kind)), "((0,), (1, '?'))")

    def test_is_copy(self):
        kinds = (("maybe", ("shared", ("int",))), ("maybe", ("exclusive", ("int",))))
        self.assertEqual(repr([is_copy(kind) for kind in kinds]), "[True, False]")

    def test_kind_after(self):
        with self.assertRaises(NoSuchStep):
            kind_after((), ("maybe", ("int",)), "^")

    def test_crossed(self):
        kinds = {"p": ("shared", ("tuple", (("int",), ("bool",))))}
        self.assertEqual(repr(crossed(("p", ("^", 0)), records=(), kinds=kinds)), "('p', ())")

    def test_parse_program(self):
        tree = "((), (('main', (), ('unit',), (), (('print', ('op', '+', ('int', 1), ('int', -2))),)),))"
        self.assertEqual(repr(parse_program("fn main() -> unit { print (1 + -2); }")), tree)

    def test_parse_program_that_ends_too_early(self):
        with self.assertRaises(SyntaxProblem) as caught:
            parse_program("fn main() -> unit {\n  print 1\n}")
        self.assertEqual((caught.exception.line, caught.exception.column), (3, 1))

    def test_write_program(self):
        records = (("Pair", (("a", ("int",)), ("b", ("box", ("int",))))),)
        self.assertEqual(write_program((records, ())), "record Pair { a: int, b: box int }\n")
        block = (("store", ("r", ("^",)), ("int", -5)),)
        functions = (("f", (("r", ("exclusive", ("int",))),), ("unit",), (), block),)
        self.assertEqual(write_program(((), functions)), "fn f(r: &mut int) -> unit {\n    r^ = -5;\n}\n")

    def test_check_kinds(self):
        for text, reason in (
            ("fn main() -> int { let x = 1; return (x + y); }", "unknown"),
            ("fn main() -> unit { let b = box box 1; do b^; }", "move"),
        ):
            with self.assertRaises(KindProblem) as caught:
                check_kinds(parse_program(text))
            self.assertEqual((caught.exception.where, caught.exception.reason), ("main", reason))

    def test_build_graph(self):
        graph = build_graph(parse_program("fn main(n: int) -> unit { print n; }"), "main")
        self.assertEqual(repr([graph.points, graph.successors]),
                         "[[('copy', '#0', ('n', ())), ('print', '#0'), ('set', '#1', ('unit',)), ('drop', 'n'), "
                         "('leave', '#1')], [(1,), (2,), (3,), (4,), ()]]")

    def test_size(self):
        kind = ("tuple", (("int",), ("maybe", ("bool",)), ("box", ("tuple", (("int",), ("int",))))))
        self.assertEqual(size((), kind), 4)

    def test_first_marks(self):
        program = parse_program("fn f(a: &int) -> &int from a { return a; } fn main() -> unit { }")
        self.assertEqual(repr(first_marks(program, build_graph(program, "f"))), "[('loan', ('a', ()), 'a', 'alive')]")

    def test_check_program(self):
        self.assertIsNone(check_program(parse_program(FIRST + USE_OF_FIRST % "y")))
        found = check_program(parse_program(FIRST + USE_OF_FIRST % "x"))
        self.assertEqual(repr(found), "('main', 'dead', (0, 1, 2, 3, 4, 5, 6, 7, 8, 9, 10))")

    def test_run_values(self):
        for text, arguments, limit, found in (
            (FIRST + USE_OF_FIRST % "y", (), 100, "(('returned', ('int', 1)), ())"), (LOOP, (3,), 16, "(('running',), (3,))"),
            ("fn main() -> int { let m = none[int]; return m?; }", (), 100, "(('stopped', 'empty'), ())"),
        ):
            self.assertEqual(repr(run_values(parse_program(text), arguments, limit)), found)

    def test_memory(self):
        m = Memory()
        a = m.allocate(2)
        b = m.allocate(1)
        m.release(a)
        c = m.allocate(3)
        self.assertEqual(repr([a, b, c, m.blocks()]), "[1, 3, 4, [(3, 1), (4, 3)]]")

    def test_run_memory_and_trace_memory(self):
        self.assertEqual(repr(run_memory(parse_program(LOOP), (3,), 1000)), "(('returned', ('int', 6)), (3, 5, 6))")
        found = trace_memory(parse_program("fn main() -> box int { return box 7; }"), (), 100)
        self.assertEqual(repr(found), "(('allocate', 1, 2), ('allocate', 3, 1), ('release', 1))")

    def test_project(self):
        project = Project(parse_program(FIRST + USE_OF_FIRST % "y"))
        before = project.verdict("main")
        other = parse_program("fn first(a: &int, b: &int) -> &int from b { return b; }")
        project.replace(other[1][0])
        self.assertEqual(repr([before, project.verdict("main"), project.checked()]),
                         "[None, ('dead', (0, 1, 2, 3, 4, 5, 6, 7, 8, 9, 10)), 2]")

    def test_the_programs_of_the_examples_pass(self):
        for text in (
            FIRST + USE_OF_FIRST % "y", FIRST + USE_OF_FIRST % "x", LOOP,
            "fn f(a: &int) -> &int from a { return a; } fn main() -> unit { }",
            "fn main() -> int { let m = none[int]; return m?; }", "fn main() -> box int { return box 7; }",
        ):
            self.assertIsNone(check_kinds(parse_program(text)))


class Section49(unittest.TestCase):
    TEXT = "fn main(a: int) -> int {\n    let x = (a, 2);\n    let r = &mut x.0;\n    r^ = 5;\n    print x.0;\n    return x.1;\n}\n"

    def test_marks(self):
        program = parse_program(self.TEXT)
        graph = build_graph(program, "main")
        mark = ("loan", ("#3", ()), 4, "alive")
        self.assertEqual(new_marks(program, graph, 4), [mark])
        (mark,) = pass_mark(program, graph, 5, mark)
        self.assertEqual(mark, ("loan", ("r", ()), 4, "alive"))
        for point in (6, 7):
            self.assertEqual(pass_mark(program, graph, point, mark), [mark])
        (mark,) = pass_mark(program, graph, 8, mark)
        self.assertEqual(mark, ("loan", ("r", ()), 4, "dead"))
        for point in range(9, 18):
            self.assertIsNone(problems(program, graph, point, mark))
        self.assertEqual(pass_mark(program, graph, 11, mark), [])

    def test_runs(self):
        program = parse_program(self.TEXT)
        self.assertIsNone(check_program(program))
        for run in (run_values, run_memory):
            self.assertEqual(run(program, (3,), 14), (("running",), (5,)))
            self.assertEqual(run(program, (3,), 15), (("returned", ("int", 2)), (5,)))

    def test_a_later_use_of_the_borrow(self):
        program = parse_program(self.TEXT.replace("print x.0;", "print x.0; print r^;"))
        self.assertEqual(build_graph(program, "main").points[10], ("copy", "#6", ("r", ("^",))))
        self.assertEqual(check_program(program), ("main", "dead", (0, 1, 2, 3, 4, 5, 6, 7, 8, 9, 10)))

    def test_the_tree(self):
        text = self.TEXT
        self.assertEqual(write_program(parse_program(text)), text)
        self.assertIsNone(check_kinds(parse_program(text)))
        self.assertEqual(parse_program(text), ((), (("main", (("a", ("int",)),), ("int",), (), (
            ("let", "x", ("tuple", (("use", ("a", ())), ("int", 2)))),
            ("let", "r", ("borrow", "exclusive", ("x", (0,)))),
            ("store", ("r", ("^",)), ("int", 5)),
            ("print", ("use", ("x", (0,)))),
            ("return", ("use", ("x", (1,)))),
        )),)))


class Arguments(unittest.TestCase):
    def test_calls_change_nothing_and_repeat_themselves(self):
        records = (("Pair", (("a", ("int",)), ("b", ("box", ("int",))))),)
        kinds = {"p": ("shared", ("record", "Pair")), "x": ("int",)}
        before = copy.deepcopy((records, kinds))
        for _ in range(3):
            self.assertEqual(crossed(("p", ("^", "b", "^")), records=records, kinds=kinds), ("p", ()))
            self.assertEqual(kind_after(records, ("record", "Pair"), "a"), ("int",))
            self.assertEqual((records, kinds), before)

    def test_a_problem_leaves_nothing_behind(self):
        text = "fn f() -> int { print 1; }"
        tree = parse_program(text)
        for _ in range(3):
            with self.assertRaises(SyntaxProblem):
                parse_program(text[:-1])
            self.assertEqual(parse_program(text), tree)
