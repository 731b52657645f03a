import copy
import itertools
import unittest

from lendback.effects import access, clears, conflicts, loans, moves, uses
from lendback.graph import build_graph
from lendback.kinding import check_kinds
from lendback.parser import parse_program
from tests.table import Effects
from tests.valid import ValidMaker

PRELUDE = """
    record Pair { a: int, b: box int }
    fn pick(a: (&int, maybe &int), n: int, b: &mut int, c: &int) -> (&int, &int) from a, c { return (c, c); }
    fn keep(a: &int, b: &mut int) -> &int { return a; }
    fn look(a: &int) -> int from a { return a^; }
    fn main(i: int, y: bool) -> int {
        let k = 1; let b = box 2; let p = Pair(1, box 3); let m = some (1, box 2); let t = (1, box 2);
        let s = &p; let r = &mut k; let v = (&i, some &t.0, 5); let w = some (&mut b, y); let h = none[&mut Pair];
"""


class Working(unittest.TestCase):
    def setUp(self):
        self.program = self.graph = None

    def read(self, statement):
        """The graph of a `main` that ends with this statement."""
        self.program = parse_program(PRELUDE + statement + " }")
        check_kinds(self.program)
        self.graph = build_graph(self.program, "main")

    def row(self, start, *, used=(), accessed=None, moved=(), cleared=(), turn=-1):
        """The effects of the last instruction (or another one) that begins like this."""
        found = [at for at, row in enumerate(self.graph.points) if row[:len(start)] == start]
        at = found[turn]
        self.assertEqual(sorted(uses(self.program, self.graph, at), key=repr), sorted(used, key=repr))
        self.assertEqual(access(self.program, self.graph, at), accessed)
        self.assertEqual(sorted(moves(self.program, self.graph, at), key=repr), sorted(moved, key=repr))
        self.assertEqual(sorted(clears(self.program, self.graph, at), key=repr), sorted(cleared, key=repr))
        for answer in (uses, clears, moves):
            self.assertIsInstance(answer(self.program, self.graph, at), tuple)

    def temporary(self, start):
        """The temporary of the last instruction that begins like this."""
        return [row for row in self.graph.points if row[0] == start][-1][1]


class Rows(Working):
    def test_set_op_not_test_print_unbox_jump_and_stop(self):
        self.read("if not (y and true) { print ((k + 1) - unbox b); } else { }")
        for start in ("set", "op", "not", "test", "print", "unbox", "jump", "stop"):
            self.row((start,))

    def test_copy(self):
        self.read("do k;")
        self.row(("copy",), accessed=("read", ("k", ())))
        self.read("do s;")
        t = self.temporary("copy")
        self.row(("copy",), used=[("s", ())], accessed=("read", ("s", ())), moved=[(("s", ()), (t, ()))])
        self.read("do v;")
        t = self.temporary("copy")
        self.row(("copy",), used=[("v", (0,)), ("v", (1, "?"))], accessed=("read", ("v", ())),
                 moved=[(("v", (0,)), (t, (0,))), (("v", (1, "?")), (t, (1, "?")))])
        self.read("do v.1;")
        t = self.temporary("copy")
        self.row(("copy",), used=[("v", (1, "?"))], accessed=("read", ("v", (1,))), moved=[(("v", (1, "?")), (t, ("?",)))])

    def test_copy_through_a_borrow(self):
        self.read("do s^.b^;")
        self.row(("copy",), used=[("s", ())], accessed=("read", ("s", ("^", "b", "^"))))
        self.read("do r^;")
        self.row(("copy",), used=[("r", ())], accessed=("read", ("r", ("^",))))
        self.read("do v.1?^;")
        self.row(("copy",), used=[("v", (1, "?"))], accessed=("read", ("v", (1, "?", "^"))))
        self.read("do w?.0^^;")
        self.row(("copy",), used=[("w", ("?", 0))], accessed=("read", ("w", ("?", 0, "^", "^"))))
        self.read("do b^;")
        self.row(("copy",), accessed=("read", ("b", ("^",))))

    def test_move(self):
        for place in (("p", ()), ("p", ("b",)), ("b", ()), ("m", ("?", 1)), ("t", ())):
            self.read("do " + place[0] + "".join(step if step == "?" else f".{step}" for step in place[1]) + ";")
            self.row(("move",), accessed=("move", place))
        self.read("do r;")
        t = self.temporary("move")
        self.row(("move",), used=[("r", ())], accessed=("move", ("r", ())), moved=[(("r", ()), (t, ()))], cleared=[("r", ())])
        self.read("do w;")
        t = self.temporary("move")
        self.row(("move",), used=[("w", ("?", 0))], accessed=("move", ("w", ())), moved=[(("w", ("?", 0)), (t, ("?", 0)))],
                 cleared=[("w", ("?", 0))])
        self.read("do w?.0;")
        t = self.temporary("move")
        self.row(("move",), used=[("w", ("?", 0))], accessed=("move", ("w", ("?", 0))), moved=[(("w", ("?", 0)), (t, ()))],
                 cleared=[("w", ("?", 0))])

    def test_borrow(self):
        for mode, word, text in (("read", "shared", "&"), ("write", "exclusive", "&mut ")):
            self.read(f"do {text}k;")
            self.row(("borrow",), accessed=(mode, ("k", ())))
            self.read(f"do {text}r^;")
            t = self.temporary("borrow")
            self.row(("borrow", t, word), used=[("r", ())], accessed=(mode, ("r", ("^",))), moved=[(("r", ()), (t, ()))])
            self.read(f"do {text}h?^.b^;")
            t = self.temporary("borrow")
            self.row(("borrow", t, word), used=[("h", ("?",))], accessed=(mode, ("h", ("?", "^", "b", "^"))),
                     moved=[(("h", ("?",)), (t, ()))])
            self.read(f"do {text}m?.1;")
            self.row(("borrow",), accessed=(mode, ("m", ("?", 1))))
        self.read("do &v.0^;")
        t = self.temporary("borrow")
        self.row(("borrow",), used=[("v", (0,))], accessed=("read", ("v", (0, "^"))), moved=[(("v", (0,)), (t, ()))])

    def test_is(self):
        self.read("do m is some;")
        self.row(("is",), accessed=("read", ("m", ())))
        self.read("do w is some;")
        self.row(("is",), accessed=("read", ("w", ())))
        self.read("let z = &m; do z^ is some;")
        self.row(("is",), used=[("z", ())], accessed=("read", ("z", ("^",))))

    def test_make(self):
        self.read("do Pair(1, box 2);")
        self.row(("make",))
        self.read("do some box (1, 2);")
        for turn in (-1, -2, -3):
            self.row(("make",), turn=turn)
        self.read("do (1, s, (r, v));")
        points = self.graph.points
        inner, outer = [row for row in points if row[0] == "make"][-2:]
        r, v = inner[3]
        _, s, pair = outer[3]
        self.row(("make",), turn=-2, used=[(r, ()), (v, (0,)), (v, (1, "?"))], cleared=[(r, ()), (v, (0,)), (v, (1, "?"))],
                 moved=[((r, ()), (inner[1], (0,))), ((v, (0,)), (inner[1], (1, 0))), ((v, (1, "?")), (inner[1], (1, 1, "?")))])
        paths = [(0,), (1, 0), (1, 1, "?")]
        self.row(("make",), used=[(s, ())] + [(pair, path) for path in paths], cleared=[(s, ())] + [(pair, path) for path in paths],
                 moved=[((s, ()), (outer[1], (1,)))] + [((pair, path), (outer[1], (2,) + path)) for path in paths])

    def test_make_of_a_maybe(self):
        self.read("do some some v;")
        first, second = [row for row in self.graph.points if row[0] == "make"][-2:]
        v = first[3][0]
        self.row(("make",), turn=-2, used=[(v, (0,)), (v, (1, "?"))], cleared=[(v, (0,)), (v, (1, "?"))],
                 moved=[((v, path), (first[1], ("?",) + path)) for path in ((0,), (1, "?"))])
        paths = [("?", 0), ("?", 1, "?")]
        self.row(("make",), used=[(first[1], path) for path in paths], cleared=[(first[1], path) for path in paths],
                 moved=[((first[1], path), (second[1], ("?",) + path)) for path in paths])

    def test_let(self):
        self.read("let z = 1;")
        self.row(("let",))
        self.read("let z = v;")
        s = [row[2] for row in self.graph.points if row[:2] == ("let", "z")][0]
        paths = [(0,), (1, "?")]
        self.row(("let", "z"), used=[(s, path) for path in paths], moved=[((s, path), ("z", path)) for path in paths],
                 cleared=[(name, path) for name in (s, "z") for path in paths])

    def test_store(self):
        self.read("k = 5;")
        self.row(("store",), accessed=("store", ("k", ())))
        self.read("r^ = 5;")
        self.row(("store",), used=[("r", ())], accessed=("store", ("r", ("^",))))
        self.read("p.b^ = 5;")
        self.row(("store",), accessed=("store", ("p", ("b", "^"))))
        self.read("h?^.b = box 5;")
        self.row(("store",), used=[("h", ("?",))], accessed=("store", ("h", ("?", "^", "b"))))
        self.read("r = &mut k;")
        s = self.temporary("borrow")
        self.row(("store",), used=[(s, ())], accessed=("store", ("r", ())), moved=[((s, ()), ("r", ()))],
                 cleared=[(s, ()), ("r", ())])
        self.read("v.1 = some &i;")
        s = self.temporary("make")
        self.row(("store",), used=[(s, ("?",))], accessed=("store", ("v", (1,))), moved=[((s, ("?",)), ("v", (1, "?")))],
                 cleared=[(s, ("?",)), ("v", (1, "?"))])

    def test_swap(self):
        self.read("do swap k with 5;")
        self.row(("swap",), accessed=("write", ("k", ())))
        self.read("do swap r^ with 5;")
        self.row(("swap",), used=[("r", ())], accessed=("write", ("r", ("^",))))
        self.read("do swap w?.0^^ with 5;")
        self.row(("swap",), used=[("w", ("?", 0))], accessed=("write", ("w", ("?", 0, "^", "^"))))
        self.read("do swap p.b with box 5;")
        self.row(("swap",), accessed=("write", ("p", ("b",))))

    def test_call(self):
        self.read("do pick((&i, some &k), 5, r, &k);")
        call = [row for row in self.graph.points if row[0] == "call"][-1]
        t, (a, _, b, c) = call[1], call[3]
        origins = [(a, (0,)), (a, (1, "?")), (c, ())]
        self.row(("call",), used=origins + [(b, ())], cleared=origins + [(b, ())],
                 moved=[(origin, (t, path)) for origin in origins for path in ((0,), (1,))])
        self.read("do keep(&i, r);")
        a, b = [row for row in self.graph.points if row[0] == "call"][-1][3]
        self.row(("call",), used=[(a, ()), (b, ())], cleared=[(a, ()), (b, ())])
        self.read("do look(&i);")
        (a,) = [row for row in self.graph.points if row[0] == "call"][-1][3]
        self.row(("call",), used=[(a, ())], cleared=[(a, ())])
        self.read("do main(1, y);")
        self.row(("call",))

    def test_drop(self):
        self.read("do 1; do s; do (r, v);")
        self.row(("drop", "k"), accessed=("store", ("k", ())))
        self.row(("drop", "s"), accessed=("store", ("s", ())), cleared=[("s", ())])
        self.row(("drop", "v"), accessed=("store", ("v", ())), cleared=[("v", (0,)), ("v", (1, "?"))])
        self.row(("drop", "w"), accessed=("store", ("w", ())), cleared=[("w", ("?", 0))])
        t = self.temporary("make")
        self.row(("drop", t), accessed=("store", (t, ())), cleared=[(t, (0,)), (t, (1, 0)), (t, (1, 1, "?"))])

    def test_leave(self):
        self.read("return 1;")
        self.row(("leave",))
        self.graph = build_graph(self.program, "pick")
        self.row(("leave",), used=[("#2", (0,)), ("#2", (1,))], cleared=[("#2", (0,)), ("#2", (1,))])


class OrderOfNames(Working):
    def test_ascending_as_strings(self):
        self.read("do (&i, &i, &i, &i, &i, &i); let z = (&i, &i); z.1 = &k; v = (z.0, none[&int], 4); do r;")
        for at in range(len(self.graph.points)):
            for found in (uses(self.program, self.graph, at), clears(self.program, self.graph, at)):
                names = [name for name, _ in found]
                self.assertEqual(names, sorted(names))
                self.assertEqual(len(set(found)), len(found))

    def test_numbers_are_compared_as_strings(self):
        text = "fn main() -> unit { let a = 1; " + "print 1; " * 7 + "do (&a, (&a, &a)); }"
        self.program = parse_program(text)
        self.graph = build_graph(self.program, "main")
        at = [point for point, row in enumerate(self.graph.points) if row[0] == "make"][0]
        self.assertEqual(self.graph.points[at][3], ("#9", "#10"))
        for found in (uses(self.program, self.graph, at), clears(self.program, self.graph, at)):
            self.assertEqual([name for name, _ in found], ["#10", "#9"])

    def test_temporaries_come_before_variables(self):
        self.read("let z = &i;")
        at = [point for point, row in enumerate(self.graph.points) if row[:2] == ("let", "z")][0]
        self.assertEqual([name[0] for name, _ in clears(self.program, self.graph, at)], ["#", "z"])


class Loans(Working):
    def test_which_borrows_make_one(self):
        self.read("""do &k; do &mut p.b; do &s^; do &s^.b^; do &r^; do &mut r^; do &mut h?^.a; do &v.0^; do &v.1?^;
                     do &mut w?.0^^; do &mut b^; do &m?.1^;""")
        found = loans(self.program, self.graph)
        self.assertEqual([found[point] for point in sorted(found)], [
            ("shared", ("p", ())), ("exclusive", ("k", ())), ("shared", ("i", ())), ("shared", ("t", (0,))),
            ("exclusive", ("b", ())), ("shared", ("k", ())), ("exclusive", ("p", ("b",))), ("shared", ("r", ("^",))),
            ("exclusive", ("r", ("^",))), ("exclusive", ("h", ("?", "^", "a"))), ("exclusive", ("w", ("?", 0, "^", "^"))),
            ("exclusive", ("b", ("^",))), ("shared", ("m", ("?", 1, "^"))),
        ])
        for point, (mode, place) in found.items():
            self.assertEqual(self.graph.points[point][2:], (mode, place))

    def test_the_program_of_section_49(self):
        text = "fn main(a: int) -> int { let x = (a, 2); let r = &mut x.0; r^ = 5; print x.0; return x.1; }"
        program = parse_program(text)
        graph = build_graph(program, "main")
        self.assertEqual(loans(program, graph), {4: ("exclusive", ("x", (0,)))})
        self.assertEqual(access(program, graph, 8), ("read", ("x", (0,))))
        self.assertIs(conflicts(access(program, graph, 8), loans(program, graph)[4], None), True)
        self.assertIs(conflicts(access(program, graph, 10), loans(program, graph)[4], None), False)
        self.assertEqual(uses(program, graph, 7), (("r", ()),))
        self.assertEqual(uses(program, graph, 11), ())
        self.assertEqual(moves(program, graph, 5), ((("#3", ()), ("r", ())),))

    def test_parameters_are_not_among_them(self):
        program = parse_program("fn f(a: &int, b: &mut int) -> &int from a { return a; } fn main() -> unit { }")
        self.assertEqual(loans(program, build_graph(program, "f")), {})


class Conflicts(unittest.TestCase):
    def check(self, answer, accessed, loan, crossing):
        self.assertIs(conflicts(accessed, loan, crossing), answer)

    def test_reads(self):
        for place in (("x", ()), ("x", (0,)), ("x", (0, "f"))):
            self.check(True, ("read", place), ("exclusive", ("x", (0,))), None)
            self.check(False, ("read", place), ("shared", ("x", (0,))), None)
        for place in (("x", (1,)), ("y", ()), ("y", (0,))):
            self.check(False, ("read", place), ("exclusive", ("x", (0,))), None)
        self.check(True, ("read", ("r", ())), ("exclusive", ("r", ("^",))), 0)

    def test_writes_and_moves(self):
        for mode in ("write", "move"):
            for borrow in ("shared", "exclusive"):
                for place in (("x", ()), ("x", (0,)), ("x", (0, "f"))):
                    self.check(True, (mode, place), (borrow, ("x", (0,))), None)
                for place in (("x", (1,)), ("y", ()), ("y", (0,))):
                    self.check(False, (mode, place), (borrow, ("x", (0,))), None)
                self.check(True, (mode, ("r", ())), (borrow, ("r", ("^",))), 0)

    def test_stores(self):
        for borrow in ("shared", "exclusive"):
            for place in (("x", ()), ("x", (0,)), ("x", (0, "f"))):
                self.check(True, ("store", place), (borrow, ("x", (0,))), None)
            self.check(False, ("store", ("x", (1,))), (borrow, ("x", (0,))), None)
            self.check(False, ("store", ("y", (0,))), (borrow, ("x", (0,))), None)

    def test_stores_to_what_a_loan_goes_through(self):
        for borrow in ("shared", "exclusive"):
            loan = (borrow, ("x", (0, "^", "f", "g")))
            self.check(False, ("store", ("x", ())), loan, 1)
            self.check(False, ("store", ("x", (0,))), loan, 1)
            self.check(True, ("store", ("x", (0, "^"))), loan, 1)
            self.check(True, ("store", ("x", (0, "^", "f"))), loan, 1)
            self.check(True, ("store", ("x", (0, "^", "f", "g"))), loan, 1)
            self.check(True, ("store", ("x", (0, "^", "f", "g", 1))), loan, 1)
            self.check(False, ("store", ("x", (0, "^", "h"))), loan, 1)
            self.check(False, ("store", ("x", (1,))), loan, 1)
            for place in (("x", ()), ("x", (0,)), ("x", (0, "^"))):
                self.check(True, ("write", place), loan, 1)
                self.check(True, ("move", place), loan, 1)
                self.check(borrow == "exclusive", ("read", place), loan, 1)
                # A "^" of a box is no crossing.
                self.check(True, ("store", place), loan, None)

    def test_all_places_of_some_steps(self):
        rows = [()] + [steps for length in (1, 2, 3) for steps in itertools.product(("^", 0), repeat=length)]
        places = [(name, steps) for name in ("x", "y") for steps in rows]
        for p, q in itertools.product(places, places):
            shorter = min(len(p[1]), len(q[1]))
            overlapping = p[0] == q[0] and p[1][:shorter] == q[1][:shorter]
            crossings = [None] + [at for at, step in enumerate(q[1]) if step == "^"]
            for mode, borrow, crossing in itertools.product(("read", "write", "move", "store"), ("shared", "exclusive"), crossings):
                steps_of_p = range(len(p[1]))
                spared = mode == "store" and len(p[1]) <= len(q[1]) and crossing is not None and crossing not in steps_of_p
                expected = overlapping and not spared and (mode != "read" or borrow == "exclusive")
                self.check(expected, (mode, p), (borrow, q), crossing)


class RandomPrograms(unittest.TestCase):
    def test_they_have_the_effects_of_the_table(self):
        moving = {}
        for seed in range(300):
            program = ValidMaker(seed).program()
            for function in program[1]:
                graph = build_graph(program, function[0])
                for point, row in enumerate(graph.points):
                    table = Effects(program, graph, point)
                    self.compare(uses(program, graph, point), table.uses)
                    self.compare(clears(program, graph, point), table.clears)
                    self.assertEqual(access(program, graph, point), table.access)
                    found = moves(program, graph, point)
                    self.assertEqual(sorted(found, key=repr), sorted(table.moves, key=repr))
                    moving[row[0]] = moving.get(row[0], 0) + len(found)
        self.assertEqual([word for word in moving if moving[word] > 20],
                         [word for word in moving if word in ("copy", "move", "borrow", "make", "let", "store", "call")])

    def compare(self, found, wanted):
        self.assertIsInstance(found, tuple)
        self.assertEqual(sorted(found, key=repr), sorted(set(wanted), key=repr))
        names = [name for name, _ in found]
        self.assertEqual(names, sorted(names))

    def test_loans(self):
        count = 0
        for seed in range(150):
            program = ValidMaker(seed).program()
            for function in program[1]:
                graph = build_graph(program, function[0])
                expected = {}
                for point, row in enumerate(graph.points):
                    crossed = Effects(program, graph, point).crossed() if row[0] == "borrow" else []
                    kinds = [Effects(program, graph, point).kinds_passed(leaf)[-1][0] for leaf in crossed]
                    if row[0] == "borrow" and "shared" not in kinds:
                        expected[point] = row[2:]
                self.assertEqual(loans(program, graph), expected)
                count += len(expected)
        self.assertGreater(count, 100)

    def test_nothing_is_changed(self):
        for seed in range(40):
            program = ValidMaker(seed).program()
            for function in program[1]:
                graph = build_graph(program, function[0])
                before = copy.deepcopy((program, vars(graph)))
                for point in range(len(graph.points)):
                    for ask in (uses, clears, access, moves):
                        self.assertEqual(ask(program, graph, point), ask(program, graph, point))
                self.assertEqual(loans(program, graph), loans(program, graph))
                self.assertEqual((program, vars(graph)), before)
