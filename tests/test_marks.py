import copy
import random
import unittest

from lendback.graph import build_graph
from lendback.kinding import check_kinds
from lendback.marks import first_marks, new_marks, pass_mark, problems
from lendback.parser import parse_program
from tests.accepted import LendingMaker
from tests.plain_marks import PlainMarks
from tests.valid import ValidMaker, places_within

STATES = ("alive", "loose", "dead")
PRELUDE = """
    record Pair { a: int, b: box int }
    fn pick(a: (&int, maybe &int), n: int, b: &mut int, c: &int) -> (&int, &int) from a, c { return (c, c); }
    fn keep(a: &int, b: &mut int) -> &int { return a; }
    fn work(i: int, r: &mut Pair, q: &Pair, v: (&int, maybe &int), w: maybe (&mut box int, bool)) -> (&Pair, int) from q {
        let k = 1; let b = box 2; let p = Pair(1, box 3); let m = some (1, box 2); let h = none[&mut Pair];
"""


class Working(unittest.TestCase):
    """Marks before and behind the last instruction of some shape that a statement of `work` leads to."""

    def read(self, statement):
        self.program = parse_program(PRELUDE + statement + " } fn main() -> unit { }")
        check_kinds(self.program)
        self.graph = build_graph(self.program, "work")
        return self

    def point(self, start, turn=-1):
        return [at for at, row in enumerate(self.graph.points) if row[:len(start)] == start][turn]

    def passes(self, point, before, *behind):
        """One mark becomes some others."""
        found = pass_mark(self.program, self.graph, point, before)
        self.assertIsInstance(found, list)
        self.assertEqual(sorted(found, key=repr), sorted(behind, key=repr), self.graph.points[point])

    def goes(self, point, loan, leaf, targets, becomes=None):
        """A loan's mark goes from a leaf to others, in each state; `becomes` tells what "alive" becomes."""
        for state in STATES:
            after = becomes if becomes and state == "alive" else state
            self.passes(point, ("loan", leaf, loan, state), *[("loan", target, loan, after) for target in targets])

    def shows(self, point, mark, problem):
        self.assertEqual(problems(self.program, self.graph, point, mark), problem, (self.graph.points[point], mark))


class FirstMarks(Working):
    def test_all_leaves_of_all_parameters(self):
        self.read("")
        found = first_marks(self.program, self.graph)
        self.assertIsInstance(found, list)
        leaves = [("r", ()), ("q", ()), ("v", (0,)), ("v", (1, "?")), ("w", ("?", 0))]
        self.assertEqual(sorted(found, key=repr), sorted([("loan", leaf, leaf[0], "alive") for leaf in leaves], key=repr))

    def test_none(self):
        self.read("")
        self.assertEqual(first_marks(self.program, build_graph(self.program, "main")), [])
        program = parse_program("fn main(a: int, b: bool) -> unit { let r = &a; }")
        self.assertEqual(first_marks(program, build_graph(program, "main")), [])


class NewMarks(Working):
    def gives(self, statement, start, *marks):
        point = self.read(statement).point(start)
        self.assertEqual(new_marks(self.program, self.graph, point), list(marks))
        return point

    def test_borrows(self):
        for text, mode in (("&", "shared"), ("&mut ", "exclusive")):
            for place in ("k", "p", "p.b", "b^", "m?.1", "r^", "r^.b^", "w?.0^"):
                point = self.read(f"do {text}{place};").point(("borrow",))
                temporary = self.graph.points[point][1]
                self.assertEqual(self.graph.points[point][2], mode)
                self.gives(f"do {text}{place};", ("borrow",), ("loan", (temporary, ()), point, "alive"))

    def test_borrows_through_a_shared_borrow(self):
        for place in ("q^", "q^.a", "q^.b^", "v.0^", "v.1?^"):
            self.gives(f"do &{place};", ("borrow",))

    def test_moves(self):
        for text, place in (("p", ("p", ())), ("p.b", ("p", ("b",))), ("m?.1", ("m", ("?", 1))), ("r", ("r", ()))):
            self.gives(f"do {text};", ("move",), ("moved", place))

    def test_others(self):
        for text, start in (
            ("do k;", ("copy",)), ("do q;", ("copy",)), ("do m is some;", ("is",)), ("do (v, r);", ("make",)),
            ("let z = r;", ("let", "z")), ("k = 5;", ("store",)), ("do swap k with 5;", ("swap",)), ("do 1;", ("set",)),
            ("do keep(v.0, &mut k);", ("call",)), ("do 1;", ("drop",)), ("return (q, 1);", ("leave",)),
            ("if true { } else { }", ("test",)), ("if true { } else { }", ("jump",)), ("print (1 + 2);", ("op",)),
            ("print 1;", ("print",)), ("do not true;", ("not",)), ("do unbox box 1;", ("unbox",)), ("do 1;", ("stop",)),
        ):
            self.gives(text, start)


class PassedLoans(Working):
    def test_copy(self):
        point = self.read("let e = &mut k; do v.0;").point(("copy",))
        temporary = self.graph.points[point][1]
        loan = self.point(("borrow",))
        self.goes(point, loan, ("v", (0,)), [("v", (0,)), (temporary, ())])
        self.goes(point, loan, ("v", (1, "?")), [("v", (1, "?"))])
        self.goes(point, loan, ("e", ()), [("e", ())])

    def test_a_read_kills_exclusive_loans_only(self):
        self.read("let e = &mut k; let s = &k; do k; do i;")
        exclusive, shared = self.point(("borrow",), -2), self.point(("borrow",), -1)
        reading, beside = self.point(("copy",), -2), self.point(("copy",), -1)
        self.goes(reading, exclusive, ("e", ()), [("e", ())], "dead")
        self.goes(reading, shared, ("s", ()), [("s", ())])
        self.goes(beside, exclusive, ("e", ()), [("e", ())])
        self.goes(shared, exclusive, ("e", ()), [("e", ())], "dead")

    def test_move(self):
        self.read("let e = &mut r^.b; let s = &p.a; do r; do p.b; do p;")
        exclusive, shared = self.point(("borrow",), -2), self.point(("borrow",), -1)
        whole, part, record = self.point(("move",), -3), self.point(("move",), -2), self.point(("move",), -1)
        temporary = self.graph.points[whole][1]
        self.goes(whole, exclusive, ("r", ()), [(temporary, ())], "dead")
        self.goes(whole, "r", ("r", ()), [(temporary, ())])
        self.goes(whole, exclusive, ("e", ()), [("e", ())], "dead")
        self.goes(part, shared, ("s", ()), [("s", ())])
        self.goes(record, shared, ("s", ()), [("s", ())], "dead")
        self.goes(record, exclusive, ("r", ()), [("r", ())])

    def test_borrow(self):
        self.read("let e = &mut r^; let f = &mut e^.b; let g = &e^.a; do &q^.b^;")
        first, second, third = [self.point(("borrow",), turn) for turn in (-4, -3, -2)]
        inner = [self.graph.points[point][1] for point in (second, third)]
        self.goes(second, first, ("e", ()), [("e", ()), (inner[0], ())])
        self.goes(third, first, ("e", ()), [("e", ()), (inner[1], ())])
        self.goes(third, second, ("f", ()), [("f", ())])
        self.goes(second, "r", ("e", ()), [("e", ()), (inner[0], ())])
        self.goes(second, second, ("f", ()), [("f", ())], "dead")
        last = self.point(("borrow",))
        self.goes(last, "q", ("q", ()), [("q", ()), (self.graph.points[last][1], ())])

    def test_is(self):
        self.read("let e = &mut w?.0^; let s = &m?; do w is some; do m is some;")
        exclusive, shared = self.point(("borrow",), -2), self.point(("borrow",), -1)
        first, second = self.point(("is",), -2), self.point(("is",), -1)
        self.goes(first, exclusive, ("e", ()), [("e", ())], "dead")
        self.goes(first, "w", ("w", ("?", 0)), [("w", ("?", 0))])
        self.goes(second, shared, ("s", ()), [("s", ())])
        self.goes(second, exclusive, ("e", ()), [("e", ())])

    def test_make(self):
        self.read("let e = &mut k; do (1, some e, v); do Pair(1, box 2);")
        loan = self.point(("borrow",))
        whole = self.point(("make",), -3)
        _, temporary, _, (_, some, copied) = self.graph.points[whole]
        self.goes(whole, loan, (some, ("?",)), [(temporary, (1, "?"))])
        self.goes(whole, loan, (copied, (1, "?")), [(temporary, (2, 1, "?"))])
        self.goes(whole, loan, ("e", ()), [("e", ())])
        inner = [at for at, row in enumerate(self.graph.points) if row[:3] == ("make", some, "some")][0]
        self.goes(inner, loan, (self.graph.points[inner][3][0], ()), [(some, ("?",))])
        self.goes(self.point(("make",)), loan, ("e", ()), [("e", ())])

    def test_let(self):
        self.read("let e = &mut r^.b; let z = (1, v);")
        loan, point = self.point(("borrow",)), self.point(("let", "z"))
        temporary = self.graph.points[point][2]
        self.goes(point, loan, (temporary, (1, 0)), [("z", (1, 0))])
        self.goes(point, loan, ("z", (1, 0)), [])
        self.goes(point, loan, ("e", ()), [("e", ())])

    def test_let_drops_the_way_of_a_loan(self):
        # In a second round, the leaf of the variable through which the loan was made is cleared.
        self.read("while true { let z = &mut k; let y = &mut z^; do y; }")
        loan, point = self.point(("borrow",)), self.point(("let", "z"))
        self.goes(point, loan, ("y", ()), [("y", ())], "loose")

    def test_store(self):
        self.read("let e = &mut k; let s = &p; let y = &mut r^.b; v.0 = &k; k = 1; p.a = 2; r = &mut p; i = 7;")
        exclusive, shared, through = [self.point(("borrow",), turn) for turn in (-5, -4, -3)]
        over, number, part, way, beside = [self.point(("store",), turn) for turn in (-5, -4, -3, -2, -1)]
        temporary = self.graph.points[over][2]
        self.goes(over, exclusive, (temporary, ()), [("v", (0,))])
        self.goes(over, exclusive, ("v", (0,)), [])
        self.goes(over, exclusive, ("v", (1, "?")), [("v", (1, "?"))])
        self.goes(number, exclusive, ("e", ()), [("e", ())], "dead")
        self.goes(number, shared, ("s", ()), [("s", ())])
        self.goes(part, shared, ("s", ()), [("s", ())], "dead")
        self.goes(way, through, ("y", ()), [("y", ())], "loose")
        self.goes(way, shared, ("s", ()), [("s", ())])
        self.goes(beside, through, ("y", ()), [("y", ())])

    def test_a_store_below_the_crossing_kills(self):
        self.read("let y = &mut r^.b; r^ = Pair(1, box 2); r^.b = box 5; r^.a = 5;")
        loan = self.point(("borrow",))
        for turn, becomes in ((-3, "dead"), (-2, "dead"), (-1, None)):
            self.goes(self.point(("store",), turn), loan, ("y", ()), [("y", ())], becomes)

    def test_swap(self):
        self.read("let e = &mut k; let s = &p.a; do swap k with 1; do swap p.a with 3; do swap p.b with box 2;")
        exclusive, shared = self.point(("borrow",), -2), self.point(("borrow",), -1)
        number, part, beside = [self.point(("swap",), turn) for turn in (-3, -2, -1)]
        self.goes(number, exclusive, ("e", ()), [("e", ())], "dead")
        self.goes(number, shared, ("s", ()), [("s", ())])
        self.goes(part, shared, ("s", ()), [("s", ())], "dead")
        self.goes(beside, shared, ("s", ()), [("s", ())])

    def test_call(self):
        point = self.read("let e = &mut k; do pick(v, 1, &mut k, v.0);").point(("call",))
        _, temporary, _, (a, _, b, c) = self.graph.points[point]
        loan = self.point(("borrow",))
        both = [(temporary, (0,)), (temporary, (1,))]
        self.goes(point, loan, (a, (0,)), both)
        self.goes(point, loan, (a, (1, "?")), both)
        self.goes(point, loan, (c, ()), both)
        self.goes(point, loan, (b, ()), [])
        self.goes(point, loan, ("e", ()), [("e", ())])
        point = self.read("do keep(v.0, &mut k);").point(("call",))
        for part in self.graph.points[point][3]:
            self.goes(point, self.point(("borrow",)), (part, ()), [])

    def test_drop(self):
        self.read("let e = &mut k; let y = &mut r^.b; do 1; return (q, 1);")
        variable, way = self.point(("drop", "k"), 0), self.point(("drop", "r"), 0)
        exclusive, through = self.point(("borrow",), -2), self.point(("borrow",), -1)
        self.goes(variable, exclusive, ("e", ()), [("e", ())], "dead")
        self.goes(way, through, ("y", ()), [("y", ())], "loose")
        self.goes(way, through, ("r", ()), [], "loose")
        self.goes(way, "r", ("r", ()), [])
        self.goes(way, "r", ("y", ()), [("y", ())])
        self.goes(self.point(("drop", "e"), 0), exclusive, ("e", ()), [])

    def test_leave(self):
        point = self.read("let e = &mut k; return (q, 1);").point(("leave",))
        temporary = self.graph.points[point][1]
        self.goes(point, "q", (temporary, (0,)), [])
        self.goes(point, self.point(("borrow",)), ("e", ()), [("e", ())])

    def test_other_instructions_change_nothing(self):
        self.read("let e = &mut k; if not (1 < 2) { print 1; } else { do unbox box 1; }")
        loan = self.point(("borrow",))
        for word in ("set", "test", "jump", "op", "not", "print", "unbox", "stop"):
            self.goes(self.point((word,)), loan, ("e", ()), [("e", ())])
            self.passes(self.point((word,)), ("moved", ("p", ("b",))), ("moved", ("p", ("b",))))

    def test_a_loan_of_a_parameter_stays_alive(self):
        self.read("let e = r; let f = &mut e^; e^.a = 1; do swap e^.a with 2; e = &mut p; do e;")
        for word in ("store", "swap", "move", "let", "drop", "borrow"):
            for turn in range(-1, -len([row for row in self.graph.points if row[0] == word]) - 1, -1):
                for mark in pass_mark(self.program, self.graph, self.point((word,), turn), ("loan", ("f", ()), "r", "alive")):
                    self.assertEqual(mark[3], "alive")


class PassedMoves(Working):
    def keeps(self, point, *places):
        for place in places:
            self.passes(point, ("moved", place), ("moved", place))

    def loses(self, point, *places):
        for place in places:
            self.passes(point, ("moved", place))

    def test_let_and_drop(self):
        self.read("while true { let z = p; let y = z; }")
        for point in (self.point(("let", "z")), self.point(("drop", "z"))):
            self.loses(point, ("z", ()), ("z", ("b",)))
            self.keeps(point, ("y", ()), ("p", ()), ("p", ("b",)))

    def test_store(self):
        point = self.read("p = Pair(1, box 2);").point(("store",))
        self.loses(point, ("p", ()), ("p", ("b",)))
        self.keeps(point, ("b", ()), ("m", ("?", 1)))
        point = self.read("m?.1 = box 2;").point(("store",))
        self.loses(point, ("m", ("?", 1)))
        self.keeps(point, ("m", ()), ("m", ("?",)), ("m", ("?", 0)), ("b", ()))
        point = self.read("m? = (1, box 2);").point(("store",))
        self.loses(point, ("m", ("?",)), ("m", ("?", 1)), ("m", ("?", 0)))
        self.keeps(point, ("m", ()))

    def test_others_keep_them(self):
        self.read("do p; do b^; do &k; do swap b with box 1; do m is some; do keep(v.0, &mut k); do (1, r); return (q, 1);")
        for word in ("move", "copy", "borrow", "swap", "is", "call", "make", "leave"):
            self.keeps(self.point((word,)), ("p", ()), ("b", ()), ("m", ("?",)), ("m", ()))


class Problems(Working):
    def test_moved(self):
        for text, start in (
            ("do m?;", ("move",)), ("do m?.0;", ("copy",)), ("do &m?;", ("borrow",)), ("do &mut m?.1;", ("borrow",)),
            ("do swap m? with (1, box 1);", ("swap",)),
        ):
            point = self.read(text).point(start)
            for place in (("m", ()), ("m", ("?",)), ("m", ("?",) + self.place(point)[1][1:])):
                self.shows(point, ("moved", place), "moved")
            for place in (("b", ()), ("p", ("b",)), ("v", ())):
                self.shows(point, ("moved", place), None)
        point = self.read("do m?.0;").point(("copy",))
        self.shows(point, ("moved", ("m", ("?", 1))), None)
        point = self.read("do m is some;").point(("is",))
        for place in (("m", ()), ("m", ("?",)), ("m", ("?", 1))):
            self.shows(point, ("moved", place), "moved")

    def place(self, point):
        return [part for part in self.graph.points[point] if isinstance(part, tuple)][0]

    def test_moved_and_stored(self):
        point = self.read("m?.1 = box 2;").point(("store",))
        for steps, problem in (((), "moved"), (("?",), "moved"), (("?", 1), None), (("?", 0), None)):
            self.shows(point, ("moved", ("m", steps)), problem)
        self.shows(point, ("moved", ("p", ())), None)
        point = self.read("m = some (1, box 2);").point(("store",))
        for steps in ((), ("?",), ("?", 1)):
            self.shows(point, ("moved", ("m", steps)), None)

    def test_moved_does_not_matter_to_others(self):
        self.read("if true { let z = (p, r); } else { } return (q, 1);")
        for point, row in enumerate(self.graph.points):
            if row[0] not in ("copy", "move"):
                for place in (("p", ()), ("z", ()), ("r", ()), ("q", ())):
                    self.shows(point, ("moved", place), None)

    def test_dead(self):
        for text, start, leaf in (
            ("do q;", ("copy",), ("q", ())), ("do q^.a;", ("copy",), ("q", ())), ("do r;", ("move",), ("r", ())),
            ("do &r^;", ("borrow",), ("r", ())), ("do &mut r^.b;", ("borrow",), ("r", ())), ("do v.1?^;", ("copy",), ("v", (1, "?"))),
            ("do swap r^.a with 1;", ("swap",), ("r", ())), ("r^.a = 1;", ("store",), ("r", ())),
        ):
            point = self.read(text).point(start)
            for state in STATES:
                for loan in (point, "r", "q"):
                    self.shows(point, ("loan", leaf, loan, state), "dead" if state == "dead" else None)
                    self.shows(point, ("loan", ("h", ("?",)), loan, state), None)

    def test_dead_in_temporaries(self):
        self.read("let z = (v, some r); v.0 = &k; do keep(v.0, &mut k); return (q, 1);")
        for start, part in (
            (("make",), 3), (("let", "z"), 2), (("store",), 2), (("call",), 3), (("leave",), 1),
        ):
            point = self.point(start)
            names = self.graph.points[point][part]
            for name in (names,) if isinstance(names, str) else names:
                paths = [leaf[1] for leaf in PlainMarks(self.program, "work").effects[point].within((name, ()))]
                for path in paths:
                    self.shows(point, ("loan", (name, path), 5, "dead"), "dead")
                    self.shows(point, ("loan", (name, path), 5, "alive"), None)
                    self.shows(point, ("loan", (name, path), 5, "loose"), None)

    def test_what_is_not_used_shows_nothing(self):
        self.read("v.0 = &k; do r; do v; return (q, 1);")
        self.shows(self.point(("store",)), ("loan", ("v", (0,)), 5, "dead"), None)
        for name in ("r", "q", "e"):
            if ("drop", name) in self.graph.points:
                self.shows(self.point(("drop", name)), ("loan", (name, ()), 5, "dead"), None)

    def test_escape(self):
        point = self.read("return (q, 1);").point(("leave",))
        leaf = (self.graph.points[point][1], (0,))
        for state in ("alive", "loose"):
            self.shows(point, ("loan", leaf, "q", state), None)
            self.shows(point, ("loan", leaf, 3, state), None)
            for name in ("r", "v", "w"):
                self.shows(point, ("loan", leaf, name, state), "escape")
                self.shows(point, ("loan", ("z", ()), name, state), None)
        for at in range(point):
            self.shows(at, ("loan", leaf, "r", "alive"), None)


class RandomPrograms(unittest.TestCase):
    def functions(self, seeds):
        for maker in (ValidMaker, LendingMaker):
            for seed in range(seeds):
                program = maker(seed).program()
                for function in program[1]:
                    yield seed, program, PlainMarks(program, function[0])

    def marks(self, plain, seed):
        """Marks of loans in each state and of moved places, at all kinds of leaves and places."""
        chance = random.Random(seed)
        graph, records = plain.graph, plain.program[0]
        loans = [at for at, row in enumerate(graph.points) if row[0] == "borrow" and plain.lends(at)] + list(graph.parameters)
        leaves = [leaf for name in graph.kinds for leaf in plain.effects[0].within((name, ()))]
        rows = [("loan", leaf, loan, state) for leaf in leaves for loan in loans for state in STATES]
        places = [place for name, kind in graph.kinds.items() if name[0] != "#" for place, _, _ in places_within(records, name, kind)]
        return chance.sample(rows, min(40, len(rows))) + [("moved", place) for place in chance.sample(places, min(12, len(places)))]

    def test_they_have_the_marks_of_the_document(self):
        count = 0
        for seed, program, plain in self.functions(60):
            self.assertEqual(set(first_marks(program, plain.graph)), plain.first())
            for point in range(len(plain.graph.points)):
                self.assertEqual(set(new_marks(program, plain.graph, point)), plain.given(point))
                for mark in self.marks(plain, f"{seed} {point}"):
                    found = pass_mark(program, plain.graph, point, mark)
                    self.assertEqual(set(found), plain.passed(point, mark))
                    self.assertEqual(len(found), len(set(found)))
                    self.assertIn(problems(program, plain.graph, point, mark), plain.shown(point, mark) or {None})
                    count += 1
        self.assertGreater(count, 50000)

    def test_nothing_is_changed_and_all_is_said_again(self):
        for seed, program, plain in self.functions(5):
            graph = plain.graph
            before = copy.deepcopy((program, vars(graph)))
            for point in range(len(graph.points)):
                for mark in self.marks(plain, seed)[:5]:
                    for ask in (pass_mark, problems):
                        self.assertEqual(ask(program, graph, point, mark), ask(program, graph, point, mark))
                self.assertEqual(new_marks(program, graph, point), new_marks(program, graph, point))
            self.assertEqual(first_marks(program, graph), first_marks(program, graph))
            self.assertEqual((program, vars(graph)), before)
