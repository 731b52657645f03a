import copy
import random
import unittest

from lendback.checker import check_function
from lendback.errors import KindProblem, NoSuchFunction
from lendback.parser import parse_program
from lendback.project import Project
from tests.accepted import LendingMaker

TEXT = """
    record Pair { a: int, b: box int }
    fn first(a: &int, b: &int) -> &int from a { return a; }
    fn main() -> int { let x = 1; let y = 2; let r = first(&x, &y); y = 5; return r^; }
    fn other(p: Pair) -> int { do p.b; return p.a; }
    fn twice(b: box int) -> unit { do b; do b; }
"""
DEAD = ("dead", tuple(range(11)))


def function(text):
    """The tree of one function."""
    return parse_program(text)[1][0]


class Asking(unittest.TestCase):
    def setUp(self):
        self.project = Project(parse_program(TEXT))

    def finds(self, name, verdict, checks):
        """The verdict on a function, and how many checks were made so far."""
        self.assertEqual(self.project.verdict(name), verdict)
        self.assertEqual(self.project.checked(), checks)

    def replace(self, text):
        self.assertIsNone(self.project.replace(function(text)))


class Verdicts(Asking):
    def test_each_function_is_checked_once(self):
        self.assertEqual(self.project.checked(), 0)
        self.finds("main", None, 1)
        self.finds("main", None, 1)
        self.finds("twice", ("moved", (0, 1, 2)), 2)
        self.finds("other", None, 3)
        self.finds("twice", ("moved", (0, 1, 2)), 3)
        self.finds("first", None, 4)
        for name in ("main", "other", "first", "twice"):
            self.finds(name, check_function(self.project.program(), name), 4)

    def test_another_function(self):
        self.finds("other", None, 1)
        self.replace("fn other(p: Pair) -> int { do p.b; do p; return 1; }")
        self.assertEqual(self.project.checked(), 1)
        self.finds("other", ("moved", (0, 1, 2)), 2)
        self.finds("other", ("moved", (0, 1, 2)), 2)
        self.replace("fn other(p: Pair) -> int { do p.b; return p.a; }")
        self.finds("other", None, 3)

    def test_the_last_check_counts(self):
        self.finds("other", None, 1)
        # It was not asked while it was another one.
        self.replace("fn other(p: Pair) -> int { do p.b; do p; return 1; }")
        self.replace("fn other(p: Pair) -> int { do p.b; return p.a; }")
        self.finds("other", None, 1)
        self.finds("main", None, 2)
        self.replace("fn first(a: &int, b: &int) -> &int from b { return b; }")
        self.replace("fn first(a: &int, b: &int) -> &int from a { return a; }")
        self.finds("main", None, 2)

    def test_an_equal_function_is_no_other_one(self):
        self.finds("main", None, 1)
        self.replace("fn main() -> int { let x = 1; let y = 2; let r = first(&x, &y); y = 5; return r^; }")
        self.finds("main", None, 1)
        self.replace("fn main() -> int { let z = 1; let y = 2; let r = first(&z, &y); y = 5; return r^; }")
        self.finds("main", None, 2)

    def test_other_sources_of_a_called_function(self):
        self.finds("main", None, 1)
        self.replace("fn first(a: &int, b: &int) -> &int from b { return b; }")
        self.finds("main", DEAD, 2)
        self.finds("main", DEAD, 2)
        self.replace("fn first(a: &int, b: &int) -> &int from a, b { return b; }")
        self.finds("main", DEAD, 3)
        # The same positions in another order, and with other names.
        self.replace("fn first(a: &int, b: &int) -> &int from b, a { return a; }")
        self.finds("main", DEAD, 3)
        self.replace("fn first(b: &int, a: &int) -> &int from b, a { return a; }")
        self.finds("main", DEAD, 3)
        self.replace("fn first(b: &int, a: &int) -> &int from b { return b; }")
        self.finds("main", None, 4)
        self.replace("fn first(long: &int, name: &int) -> &int from long { print 1; return long; }")
        self.finds("main", None, 4)
        # The names are as before, but at other positions.
        self.replace("fn first(name: &int, long: &int) -> &int from long { return long; }")
        self.finds("main", DEAD, 5)
        self.replace("fn first(name: &int, long: &int) -> &int { return long; }")
        self.finds("main", None, 6)

    def test_another_body_of_a_called_function(self):
        self.finds("main", None, 1)
        self.finds("first", None, 2)
        self.replace("fn first(a: &int, b: &int) -> &int from a { return b; }")
        self.finds("main", None, 2)
        self.finds("first", ("escape", (0, 1, 2, 3)), 3)

    def test_another_kind_of_the_result(self):
        self.replace("fn g(a: int) -> maybe int { return none[int]; }")
        self.replace("fn user() -> unit { do g(5); }")
        self.finds("user", None, 1)
        self.replace("fn g(a: int) -> box int { return box a; }")
        self.finds("user", None, 2)
        self.replace("fn g(b: int) -> box int { print b; return box 7; }")
        self.finds("user", None, 2)

    def test_other_kinds_of_parameters(self):
        user = "fn user() -> unit { do g(h()); }"
        for text in ("fn h() -> int { return 1; }", "fn g(a: int) -> unit { }", user):
            self.replace(text)
        self.finds("user", None, 1)
        for text in ("fn user() -> unit { }", "fn h() -> bool { return true; }", "fn g(a: bool) -> unit { }", user):
            self.replace(text)
        self.finds("user", None, 2)

    def test_functions_that_are_not_called_do_not_matter(self):
        self.finds("main", None, 1)
        self.replace("fn other(p: &Pair) -> int { return p^.a; }")
        self.replace("fn new(p: &Pair) -> int { return other(p); }")
        self.finds("main", None, 1)
        self.finds("new", None, 2)
        self.replace("fn twice(b: box int) -> unit { do b; }")
        self.finds("new", None, 2)
        self.finds("twice", None, 3)

    def test_calls_of_calls_do_not_matter(self):
        self.replace("fn outer(a: &int, b: &int) -> &int from a { return first(a, b); }")
        self.replace("fn user() -> int { let x = 1; let r = outer(&x, &x); return r^; }")
        self.finds("user", None, 1)
        self.finds("outer", None, 2)
        self.replace("fn first(a: &int, b: &int) -> &int from b { return b; }")
        self.finds("user", None, 2)
        self.finds("outer", ("escape", check_function(self.project.program(), "outer")[1]), 3)

    def test_calls_anywhere_in_a_function(self):
        for call in ("if false { do g(&x); } else { }", "while false { if true { } else { do (1, some g(&x)); } }",
                     "return unit; do g(&x);", "print (1 + look(g(&x)));", "if (look(g(&x)) < 1) { } else { }",
                     "let z = x; z = look(g(&x));", "do swap x with look(g(&y));", "while (look(g(&x)) < 1) { }"):
            self.setUp()
            self.replace("fn look(a: &int) -> int { return a^; }")
            self.replace("fn g(a: &int) -> &int from a { return a; }")
            self.replace("fn user() -> unit { let x = 1; let y = 2; " + call + " }")
            self.finds("user", None, 1)
            self.replace("fn g(a: &int) -> &int { print 1; return a; }")
            self.finds("user", None, 2)

    def test_a_function_that_calls_itself(self):
        self.replace("fn me(a: &int, b: &int) -> &int from a { return me(a, b); }")
        self.finds("me", None, 1)
        self.replace("fn me(a: &int, b: &int) -> &int from b { return me(a, b); }")
        self.finds("me", None, 2)
        self.replace("fn me(a: &int, b: &int) -> &int from b { return me(b, a); }")
        self.finds("me", ("escape", check_function(self.project.program(), "me")[1]), 3)


class Replacing(Asking):
    def test_in_the_place_of_the_old_one_or_at_the_end(self):
        records, functions = parse_program(TEXT)
        other, new = function("fn first(a: &int, b: &int) -> &int from b { return b; }"), function("fn new() -> unit { }")
        self.assertEqual(self.project.program(), (records, functions))
        self.project.replace(other)
        self.assertEqual(self.project.program(), (records, (other,) + functions[1:]))
        self.project.replace(new)
        self.assertEqual(self.project.program(), (records, (other,) + functions[1:] + (new,)))
        self.project.replace(functions[0])
        self.assertEqual(self.project.program(), (records, functions + (new,)))
        self.finds("new", None, 1)

    def test_a_replacement_that_breaks_a_rule(self):
        before = self.project.program()
        self.finds("main", None, 1)
        for text, where, reason in (
            ("fn first(a: &int) -> &int from a { return a; }", "main", "count"),
            ("fn first(a: &int, b: &bool) -> &int from a { return a; }", "main", "kind"),
            ("fn first(a: &int, b: &int) -> &int from c { return a; }", "first", "signature"),
            ("fn main(a: box int) -> unit { }", "main", "main"),
            ("fn new() -> unit { do nothing(); }", "new", "unknown"),
            ("fn new() -> Missing { }", "new", "signature"),
            ("fn other(p: Pair) -> int { do p.c; return 1; }", "other", "step"),
            ("fn first(a: &int, b: &int) -> int { return a^; }", "main", "step"),
        ):
            with self.assertRaises(KindProblem) as caught:
                self.project.replace(function(text))
            self.assertEqual((caught.exception.where, caught.exception.reason), (where, reason))
            self.assertEqual(self.project.program(), before)
            self.finds("main", None, 1)
        with self.assertRaises(NoSuchFunction):
            self.project.verdict("new")

    def test_no_such_function(self):
        for name in ("nothing", "Pair", ""):
            with self.assertRaises(NoSuchFunction) as caught:
                self.project.verdict(name)
            self.assertEqual(caught.exception.name, name)
        self.assertEqual(self.project.checked(), 0)

    def test_the_program_that_was_given_stays_as_it_is(self):
        program = parse_program(TEXT)
        before = copy.deepcopy(program)
        project = Project(program)
        project.verdict("main")
        project.replace(function("fn first(a: &int, b: &int) -> &int from b { return b; }"))
        project.replace(function("fn new() -> unit { }"))
        self.assertEqual(program, before)
        self.assertNotEqual(project.program(), before)


class TwoProjects(unittest.TestCase):
    def test_they_have_nothing_in_common(self):
        program = parse_program(TEXT)
        first, second = Project(program), Project(program)
        self.assertIsNone(first.verdict("main"))
        first.replace(function("fn first(a: &int, b: &int) -> &int from b { return b; }"))
        first.replace(function("fn new() -> unit { }"))
        self.assertEqual((first.verdict("main"), first.checked()), (DEAD, 2))
        self.assertEqual(second.checked(), 0)
        self.assertIsNone(second.verdict("main"))
        self.assertEqual((second.checked(), second.program()), (1, program))
        with self.assertRaises(NoSuchFunction):
            second.verdict("new")


class RandomProjects(unittest.TestCase):
    def test_verdicts_are_those_of_the_checker(self):
        """Bodies and sources change in turn, and some functions are asked in between."""
        saved = 0
        for seed in range(40):
            maker = LendingMaker(seed, 4)
            program = maker.program()
            project, chance, last, checks = Project(program), random.Random(seed), {}, 0
            for _ in range(25):
                records, functions = project.program()
                row = chance.choice(functions)
                if chance.random() < 0.4:
                    lending = [name for name, kind in row[1] if "shared" in repr(kind) or "exclusive" in repr(kind)]
                    sources = tuple(chance.sample(lending, chance.randint(0, len(lending))))
                    project.replace(row[:3] + (sources if chance.random() < 0.5 else row[3],)
                                    + (chance.choice((row[4], row[4][1:] if row[4][:1] and row[4][0][0] != "let" else row[4])),))
                    continue
                self.assertEqual(project.verdict(row[0]), check_function((records, functions), row[0]))
                basis = (row, [self.signature(functions, name) for name in sorted(called(row[4]))])
                checks += last.get(row[0]) != basis
                saved += last.get(row[0]) == basis
                last[row[0]] = basis
                self.assertEqual(project.checked(), checks)
        self.assertGreater(saved, 50)

    def signature(self, functions, name):
        (row,) = [row for row in functions if row[0] == name]
        return ([at for at, (parameter, _) in enumerate(row[1]) if parameter in row[3]], [kind for _, kind in row[1]], row[2])


def called(tree):
    """The names of the functions that are called in a tree."""
    if not isinstance(tree, tuple):
        return set()
    own = {tree[1]} if tree[:1] == ("call",) else set()
    return own.union(*[called(part) for part in tree])
