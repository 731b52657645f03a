import copy
import unittest

from lendback.checker import check_function, check_program
from lendback.errors import NoSuchFunction
from lendback.kinding import check_kinds
from lendback.parser import parse_program
from tests.accepted import LendingMaker
from tests.plain_marks import PlainMarks
from tests.valid import ValidMaker

HEAD = """
    record Pair { a: int, b: box int }
    record Link { value: int, next: maybe box Link }
    fn first(a: &int, b: &int) -> &int from a { return a; }
    fn either(a: &mut int, b: &mut int, c: bool) -> &mut int from a, b { if c { return a; } else { return b; } }
    fn both(a: (&int, maybe &mut int)) -> (&int, maybe &mut int) from a { return a; }
    fn look(a: &int) -> int { return a^; }
    fn main(n: int) -> unit { }
"""


class Checking(unittest.TestCase):
    def program(self, text):
        program = parse_program(HEAD + text)
        check_kinds(program)
        return program

    def accepts(self, *texts):
        """Texts of a function's parameters and of what stands behind them."""
        for text in texts:
            program = self.program("fn work" + text)
            self.assertIsNone(check_function(program, "work"), text)
            self.assertIsNone(check_program(program), text)

    def refuses(self, reason, *texts):
        for text in texts:
            program = self.program("fn work" + text)
            marks = PlainMarks(program, "work")
            found = check_function(program, "work")
            self.assertIsInstance(found, tuple, text)
            self.assertEqual(found[0], reason, text)
            self.assertIsInstance(found[1], tuple)
            self.assertIn(reason, marks.shows(found[1]))
            self.assertEqual(len(found[1]), marks.least(10000), text)
            self.assertEqual(check_program(program), ("work",) + found)


class Borrows(Checking):
    def test_the_program_of_section_49(self):
        head = "(a: int) -> int { let x = (a, 2); let r = &mut x.0; r^ = 5; print x.0; "
        self.accepts(head + "return x.1; }")
        self.refuses("dead", head + "print r^; return x.1; }")
        program = self.program("fn work" + head + "print r^; return x.1; }")
        self.assertEqual(check_function(program, "work"), ("dead", tuple(range(11))))

    def test_borrows_that_end_in_time(self):
        self.accepts(
            "() -> int { let x = 1; let r = &mut x; r^ = 2; return x; }",
            "() -> int { let x = 1; let r = &x; let s = &x; print r^; print (s^ + x); x = 2; return x; }",
            "() -> unit { let p = Pair(1, box 2); let r = &mut p.a; let s = &mut p.b; s^ = box r^; r^ = 1; do p; }",
            "() -> unit { let x = 1; let r = &mut x; r = &mut x; r^ = 5; print x; }",
            "(r: &mut int) -> unit { let s = &mut r^; s^ = 1; r^ = 2; }",
            "(r: &mut Pair) -> unit { let s = &mut r^.a; r^.b = box 1; s^ = 2; }",
        )

    def test_dead_borrows(self):
        self.refuses(
            "dead",
            "() -> int { let x = 1; let r = &mut x; print x; return r^; }",
            "() -> int { let x = 1; let r = &x; x = 2; return r^; }",
            "() -> int { let x = 1; let r = &x; let s = &mut x; return r^; }",
            "() -> int { let x = 1; let r = &x; do swap x with 2; return r^; }",
            "() -> int { let p = Pair(1, box 2); let r = &p.b; do p; return r^^; }",
            "() -> int { let p = Pair(1, box 2); let r = &mut p; p.b = box 3; return r^.a; }",
            "(r: &mut int) -> int { let s = &mut r^; r^ = 2; return s^; }",
            "() -> unit { let x = 1; do either(&mut x, &mut x, true); }",
            "() -> unit { let x = 1; do (&mut x, x); }",
            "(m: maybe &mut Pair) -> unit { let s = &mut m?^.a; if m is some { s^ = 1; } else { } }",
        )

    def test_borrows_behind_borrows(self):
        self.accepts("(r: &mut Pair) -> unit { let s = &mut r^; let t = &mut s^.b^; t^ = 1; s^.a = 2; r^.a = 3; }")
        self.refuses("dead", "(r: &mut Pair) -> unit { let s = &mut r^; let t = &mut s^.b^; s^.b = box 1; t^ = 1; }",
                     "(r: &mut Pair) -> unit { let s = &mut r^; let t = &mut s^.b^; r^.a = 1; t^ = 1; }")

    def test_a_borrow_that_walks(self):
        walk = "(l: &mut Link) -> unit { let r = &mut l^; while r^.next is some { r = &mut r^.next?^; } r^.value = 1; l^.value = 2; "
        self.accepts(walk + "}")
        self.refuses("dead", walk + "r^.value = 3; }")
        self.accepts("(l: Link) -> int { let r = &l; while r^.next is some { r = &r^.next?^; } return r^.value; }")

    def test_in_tuples_and_maybes(self):
        head = "() -> unit { let x = 1; let y = 2; let z = 3; let v = (&x, some &mut y); "
        self.accepts(head + "v.0 = &z; x = 5; print v.0^; }", head + "print v.0^; v.1?^ = 7; print y; }",
                     head + "y = 3; v.1 = none[&mut int]; do both(v); }")
        self.refuses("dead", head + "x = 5; print v.0^; }", head + "y = 3; do both(v); }", head + "print y; v.1?^ = 7; }")

    def test_calls(self):
        head = "() -> int { let x = 1; let y = 2; "
        self.accepts(head + "let r = first(&x, &y); y = 5; return r^; }", head + "let n = look(&x); x = 5; return n; }",
                     head + "let v = both((&x, some &mut y)); x = 1; y = 2; return 1; }")
        self.refuses("dead", head + "let r = first(&x, &y); x = 5; return r^; }",
                     head + "let r = either(&mut x, &mut y, true); x = 5; return r^; }",
                     head + "let r = either(&mut x, &mut y, true); y = 5; return r^; }",
                     # All leaves of a source go to all leaves of the value.
                     head + "let v = both((&x, some &mut y)); y = 2; return v.0^; }",
                     head + "let v = both((&x, some &mut y)); x = 2; v.1?^ = 3; return 1; }")

    def test_no_value_is_needed_to_drop_a_dead_borrow(self):
        self.accepts("() -> int { let x = 1; let r = &mut x; if true { let s = &mut r^; x = 2; } else { } return x; }")


class Moves(Checking):
    def test_moved(self):
        head = "() -> unit { let p = Pair(1, box 2); let m = some box 1; "
        self.refuses("moved", head + "do p; do p; }", head + "do p.b; do p; }", head + "do p; print p.a; }",
                     head + "do p.b; do &p; }", head + "do p; p.a = 1; }", head + "do m?; do m is some; }",
                     head + "do p; do swap p with Pair(1, box 2); }", head + "do p.b; do &mut p.b; }")
        self.accepts(head + "do p.b; print p.a; }", head + "do p; p = Pair(1, box 2); do p; }",
                     head + "do p.b; p.b = box 3; do p; }", head + "do m?; m? = box 2; do m; }", head + "do p; do m; }",
                     head + "if true { do p; } else { do p.b; } }")

    def test_in_branches_and_loops(self):
        self.refuses("moved", "(n: int, b: box int) -> unit { if (n < 1) { do b; } else { print 1; } do b; }",
                     "(n: int, b: box int) -> unit { while (n < 1) { do b; } }")
        self.accepts("(n: int, b: box int) -> unit { if (n < 1) { do b; } else { do b; } }",
                     "(n: int, b: box int) -> unit { while (n < 1) { do b; b = box 2; } do b; }",
                     "(n: int, b: box int) -> unit { if (n < 1) { do b; return unit; } else { } do b; }",
                     "(n: int) -> unit { while (n < 1) { let b = box 1; do b; } }")


class Escapes(Checking):
    def test_escape(self):
        self.accepts("(a: &int) -> &int from a { return a; }", "(a: &mut Pair) -> &int from a { return &a^.b^; }",
                     "(a: &int, b: &int) -> (&int, &int) from b, a { return (b, a); }", "(a: &int) -> int { return a^; }",
                     "(a: &int, b: &mut int) -> maybe &int from a { b^ = 1; return some a; }")
        self.refuses("escape", "(a: &int) -> &int { return a; }", "(a: &mut Pair) -> &int { return &a^.b^; }",
                     "(a: &int, b: &int) -> (&int, &int) from b { return (b, a); }",
                     "(a: &int, b: &int) -> &int from b { if (a^ < 1) { return first(b, a); } else { } return first(a, b); }")
        program = self.program("fn work(a: &int, b: &int) -> &int from b { return a; }")
        self.assertEqual(check_program(program), ("work", "escape", (0, 1, 2, 3)))

    def test_own_variables_do_not_escape(self):
        self.refuses("dead", "() -> &int { let x = 1; return &x; }", "(a: &int) -> &int from a { let x = 1; return first(&x, a); }",
                     "(a: int) -> &int { return &a; }")


class Paths(Checking):
    def test_a_problem_in_the_second_round(self):
        program = self.program("fn work(n: int) -> unit { let b = box 1; while (0 < n) { do b; } }")
        graph = PlainMarks(program, "work").graph
        reason, path = check_function(program, "work")
        move = [at for at, row in enumerate(graph.points) if row[0] == "move"][0]
        self.assertEqual((reason, path.count(move), path[-1]), ("moved", 2, move))
        self.refuses("dead", "(n: int) -> unit { let x = 1; let r = &x; while (0 < n) { print r^; x = 2; } }",
                     "() -> unit { let x = 1; let y = 2; let r = &mut x; while true { let s = &mut y; r^ = 2; r = &mut s^; } }")

    def test_a_problem_at_an_early_point(self):
        self.assertEqual(check_function(self.program("fn work(a: box int) -> unit { do (a, a); }"), "work"), ("moved", (0, 1)))
        self.assertEqual(check_function(self.program("fn work(a: box int) -> unit { do a; do a; }"), "work"), ("moved", (0, 1, 2)))
        self.assertEqual(check_function(self.program("fn work(a: &int) -> &int { return a; }"), "work"), ("escape", (0, 1, 2)))

    def test_the_shorter_branch(self):
        long = "print 1; print 2; print 3; print x;"
        for text in ("{ %s } else { print x; }" % long, "{ print x; } else { %s }" % long):
            self.refuses("dead", "(n: int) -> unit { let x = 1; let r = &mut x; if (n < 1) " + text + " print r^; }")

    def test_the_nearest_of_several_problems(self):
        self.refuses("moved", "(b: box int) -> &int { do b; do b; let x = 1; return &x; }")
        self.refuses("dead", "(b: box int) -> unit { let x = 1; let r = &x; x = 2; print r^; do b; do b; }")
        self.refuses("escape", "(n: int, b: box int, a: &int) -> &int { if (n < 1) { return a; } else { do b; print 1; print 2; print 3; do b; return a; } }")

    def test_what_cannot_be_reached_does_not_matter(self):
        self.accepts("(b: box int) -> unit { do b; return unit; do b; }", "(b: box int) -> int { do b; return 1; do b; return 2; }")

    def test_nested_blocks(self):
        text = "(n: int, b: box int) -> unit {{ let x = 1; let r = &x; while (0 < n) {{ if (n < 5) {{ while (n < 3) {{ {} }} }} " \
            "else {{ {} }} print 1; }} {} }}"
        self.refuses("dead", text.format("x = 2;", "print r^;", ""), text.format("print r^;", "x = 2;", ""),
                     text.format("x = 2;", "", "print r^;"))
        self.refuses("moved", text.format("", "do b;", "do b;"), text.format("do b;", "", ""))
        self.accepts(text.format("x = 2; r = &x;", "print r^;", ""), text.format("b = box 1;", "", "do b; x = 2;"),
                     text.format("do b; return unit;", "do b; b = box 2;", "do b;"))

    def test_an_empty_function(self):
        self.accepts("() -> unit { }", "() -> int { }", "(r: &mut int) -> unit { }")


class Programs(Checking):
    def test_the_first_function_that_has_a_problem(self):
        bad = "fn one(b: box int) -> unit { do b; do b; }"
        worse = "fn two(a: &int) -> &int { return a; }"
        self.assertEqual(check_program(self.program(bad + worse)), ("one", "moved", (0, 1, 2)))
        self.assertEqual(check_program(self.program(worse + bad)), ("two", "escape", (0, 1, 2)))
        program = self.program(worse + bad)
        self.assertEqual(check_function(program, "one"), ("moved", (0, 1, 2)))
        self.assertIsNone(check_function(program, "first"))
        self.assertIsNone(check_program(self.program("")))

    def test_no_such_function(self):
        for program in (self.program(""), ((), ())):
            for name in ("nothing", "Pair", "", "mains"):
                with self.assertRaises(NoSuchFunction) as caught:
                    check_function(program, name)
                self.assertEqual(caught.exception.name, name)
        self.assertIsNone(check_program(((), ())))


class RandomPrograms(unittest.TestCase):
    def test_no_path_is_shorter(self):
        found_reasons, rounds = {}, 0
        for maker, seeds, most in ((ValidMaker, 350, 5), (LendingMaker, 350, 8)):
            for seed in range(seeds):
                program = maker(seed, most).program()
                answers = []
                for name in [function[0] for function in program[1]]:
                    answer = check_function(program, name)
                    self.compare(PlainMarks(program, name), answer)
                    answers += [] if answer is None else [(name,) + answer]
                    reason = answer and answer[0]
                    found_reasons[reason] = found_reasons.get(reason, 0) + 1
                    rounds += answer is not None and len(set(answer[1])) < len(answer[1])
                self.assertEqual(check_program(program), answers[0] if answers else None)
        self.assertGreater(min(found_reasons[reason] for reason in ("moved", "dead", None)), 100)
        self.assertGreater(rounds, 10)

    def compare(self, plain, answer):
        least = plain.least(3000)
        if least is not None:
            self.assertEqual(0 if answer is None else len(answer[1]), least)
        if answer is not None:
            self.assertIn(answer[0], plain.shows(answer[1]) or set())

    def test_nothing_is_changed_and_all_is_said_again(self):
        for seed in range(40):
            program = LendingMaker(seed).program()
            before = copy.deepcopy(program)
            answer = check_program(program)
            self.assertEqual(check_program(program), answer)
            self.assertEqual(check_program(copy.deepcopy(program)), answer)
            self.assertEqual(program, before)
