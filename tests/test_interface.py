"""The interface of the document: its names, arguments and examples."""

import copy
import importlib
import inspect
import unittest

from lendback.errors import NoSuchStep, SyntaxProblem
from lendback.kinds import is_copy, kind_after, leaves
from lendback.parser import parse_program
from lendback.places import crossed

INTERFACE = {
    "errors": {
        "LendError": None, "SyntaxProblem": "(line, column)", "KindProblem": "(where, reason)",
        "NoSuchFunction": "(name)", "NotAllocated": "(address)", "NoSuchStep": None, "NoSuchVariable": None,
        "Refused": None,
    },
    "kinds": {
        "is_plain": "(kind)", "is_copy": "(kind)", "levels": "(kind)", "leaves": "(kind)",
        "kind_after": "(records, kind, step)",
    },
    "places": {
        "is_prefix": "(first, second)", "overlap": "(first, second)", "kind_at": "(place, *, records, kinds)",
        "crossed": "(place, *, records, kinds)",
    },
    "parser": {"parse_program": "(text)"},
}


class Names(unittest.TestCase):
    def test_everything_is_defined_in_its_file_with_its_arguments(self):
        for file, names in INTERFACE.items():
            module = importlib.import_module("lendback." + file)
            for name, arguments in names.items():
                found = getattr(module, name)
                self.assertEqual(found.__module__, "lendback." + file)
                self.assertEqual(found.__qualname__, name)
                if arguments is not None:
                    self.assertEqual(str(inspect.signature(found)), arguments)


class Examples(unittest.TestCase):
    def test_leaves(self):
        kind = ("tuple", (("shared", ("int",)), ("maybe", ("exclusive", ("bool",)))))
        self.assertEqual(repr(leaves(kind)), "((0,), (1, '?'))")

    def test_is_copy(self):
        kinds = (("maybe", ("shared", ("int",))), ("maybe", ("exclusive", ("int",))))
        self.assertEqual(repr([is_copy(kind) for kind in kinds]), "[True, False]")

    def test_kind_after(self):
        with self.assertRaises(NoSuchStep):
            kind_after((), ("maybe", ("int",)), "^")

    def test_crossed(self):
        kinds = {"p": ("shared", ("tuple", (("int",), ("bool",))))}
        self.assertEqual(repr(crossed(("p", ("^", 0)), records=(), kinds=kinds)), "('p', ())")

    def test_parse_program(self):
        tree = "((), (('main', (), ('unit',), (), (('print', ('op', '+', ('int', 1), ('int', -2))),)),))"
        self.assertEqual(repr(parse_program("fn main() -> unit { print (1 + -2); }")), tree)

    def test_parse_program_that_ends_too_early(self):
        with self.assertRaises(SyntaxProblem) as caught:
            parse_program("fn main() -> unit {\n  print 1\n}")
        self.assertEqual((caught.exception.line, caught.exception.column), (3, 1))

    def test_the_program_of_section_49(self):
        text = "fn main(a: int) -> int {\n    let x = (a, 2);\n    let r = &mut x.0;\n    r^ = 5;\n" \
            "    print x.0;\n    return x.1;\n}\n"
        self.assertEqual(parse_program(text), ((), (("main", (("a", ("int",)),), ("int",), (), (
            ("let", "x", ("tuple", (("use", ("a", ())), ("int", 2)))),
            ("let", "r", ("borrow", "exclusive", ("x", (0,)))),
            ("store", ("r", ("^",)), ("int", 5)),
            ("print", ("use", ("x", (0,)))),
            ("return", ("use", ("x", (1,)))),
        )),)))


class Arguments(unittest.TestCase):
    def test_calls_change_nothing_and_repeat_themselves(self):
        records = (("Pair", (("a", ("int",)), ("b", ("box", ("int",))))),)
        kinds = {"p": ("shared", ("record", "Pair")), "x": ("int",)}
        before = copy.deepcopy((records, kinds))
        for _ in range(3):
            self.assertEqual(crossed(("p", ("^", "b", "^")), records=records, kinds=kinds), ("p", ()))
            self.assertEqual(kind_after(records, ("record", "Pair"), "a"), ("int",))
            self.assertEqual((records, kinds), before)

    def test_a_problem_leaves_nothing_behind(self):
        text = "fn f() -> int { print 1; }"
        tree = parse_program(text)
        for _ in range(3):
            with self.assertRaises(SyntaxProblem):
                parse_program(text[:-1])
            self.assertEqual(parse_program(text), tree)
