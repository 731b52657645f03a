"""Sections 45 to 47. That both machines say the same is tested beside the value machine, too."""

import copy
import random
import unittest

from lendback.checker import check_program
from lendback.errors import LendError, Refused
from lendback.memorymachine import run_memory, trace_memory
from tests.runs import Running, read

HEAD = """
    record Pair { a: int, b: box int }
    record Link { value: int, next: maybe box Link }
"""


class Traces(unittest.TestCase):
    def traces(self, text, *expected, arguments=(), limit=10000):
        """The allocations (pairs of address and size) and releases (addresses) of a run."""
        rows = tuple([("allocate",) + row if isinstance(row, tuple) else ("release", row) for row in expected])
        self.assertEqual(repr(trace_memory(read(text), arguments, limit)), repr(rows), text)

    def boxes(self, block, *expected, size, kind="unit", head=HEAD):
        """The same for a block of `main`, whose own block has this size and is released at last."""
        self.traces(f"{head} fn main() -> {kind} {{ {block} }}", (1, size), *expected, 1)

    def test_the_block_of_main(self):
        text = "fn main(n: int, b: bool) -> int { let x = (n, 2); return x.1; }"
        for limit in range(9):
            self.traces(text, (1, 9), arguments=(1, True), limit=limit)
        for limit in (9, 10, 100):
            self.traces(text, (1, 9), 1, arguments=(1, True), limit=limit)
        self.traces("fn main() -> int { }", (1, 1))
        self.traces("fn main() -> int { }", (1, 1), limit=0)
        self.traces("fn main() -> unit { }", (1, 1), 1)

    def test_boxes(self):
        self.boxes("let b = box 1;", (5, 1), 5, size=4)
        self.boxes("do box 1;", (4, 1), 4, size=3)
        self.boxes("let b = box (1, 2);", (8, 2), 8, size=7)
        self.boxes("let x = unbox box 1;", (6, 1), 6, size=5)
        self.boxes("let b = box box 1;", (6, 1), (7, 1), 6, 7, size=5)
        self.boxes("let b = box 1; b = box 2;", (7, 1), (8, 1), 7, 8, size=6)
        self.boxes("let b = box 1; do swap b with box 2;", (8, 1), (9, 1), 8, 9, size=7)

    def test_the_contents_before_the_box_and_in_the_order_of_the_cells(self):
        self.boxes("let t = (box 1, box 2, box box 3);", (15, 1), (16, 1), (17, 1), (18, 1), 15, 16, 17, 18, size=14)
        self.boxes("let t = box (box 1, box 2);", (10, 1), (11, 1), (12, 2), 10, 11, 12, size=9)
        self.boxes("let t = (box box 1, box 2);", (11, 1), (12, 1), (13, 1), 11, 12, 13, size=10)
        self.boxes("do Pair(1, box 2);", (7, 1), 7, size=6)

    def test_variables_are_dropped_in_reverse(self):
        self.boxes("let a = box 1; let b = box 2; if true { let c = box 3; let d = box 4; } else { }",
                   (15, 1), (16, 1), (17, 1), (18, 1), 18, 17, 16, 15, size=14)
        self.boxes("let a = box 1; let b = box 2; return unit;", (9, 1), (10, 1), 10, 9, size=8)

    def test_what_was_moved_is_not_released_again(self):
        self.boxes("let a = box 1; let b = a;", (7, 1), 7, size=6)
        self.boxes("let t = (box 1, box 2); do t.0; print 5;", (12, 1), (13, 1), 12, 13, size=11)
        self.boxes("let t = (box 1, box 2); t.1 = t.0;", (11, 1), (12, 1), 12, 11, size=10)
        self.boxes("let m = some box 1; do m?;", (9, 1), 9, size=8)
        self.boxes("let m = some box 1; let b = m; m = none[box int];", (14, 1), 14, size=13)

    def test_nothing_in_a_maybe(self):
        self.boxes("let m = none[box int];", size=5)
        self.boxes("let m = none[(box int, box int)]; m = some (box 1, box 2); m = none[(box int, box int)];",
                   (20, 1), (21, 1), 20, 21, size=19)
        # The temporary of `none` is used again in the second round.
        text = "fn main(n: int) -> unit { while (0 < n) { let m = none[box int]; if (n == 2) { m = some box 1; } else { } n = (n - 1); } }"
        self.traces(text, (1, 19), (20, 1), 20, 1, arguments=(2,))

    def test_stores_through_borrows(self):
        self.boxes("let p = Pair(1, box 2); let r = &mut p; r^.b = box 3; let s = &mut r^.b; s^ = box 4;",
                   (17, 1), (18, 1), 17, (17, 1), 18, 17, size=16)
        self.boxes("let p = Pair(1, box 2); let r = &p; let s = &r^.b;", (13, 1), 13, size=12)

    def test_calls(self):
        head = "fn f(a: int, b: box int) -> int { return (a + b^); } "
        text = head + "fn main() -> unit { print f(1, box 2); }"
        self.traces(text, (1, 5), (6, 1), (7, 5), 6, 7, 1)
        head = "fn g(b: box int) -> box int { return b; } fn f(b: box int) -> box int { return g(g(b)); } "
        self.traces(head + "fn main() -> unit { do f(box 1); }", (1, 4), (5, 1), (6, 4), (10, 2), 10, (10, 2), 10, 6, 5, 1)
        self.traces("fn f() -> unit { } fn main() -> unit { do f(); do f(); }", (1, 3), (4, 1), 4, (4, 1), 4, 1)

    def test_boxes_in_the_value_of_main_stay(self):
        self.traces("fn main() -> box int { return box 7; }", (1, 2), (3, 1), 1)
        self.traces(HEAD + "fn main() -> (Pair, maybe box box int) { let b = box 5; return (Pair(1, box 2), some box box 3); }",
                    (1, 17), (18, 1), (19, 1), (20, 1), (21, 1), 18, 1)

    def test_runs_that_stop(self):
        self.traces("fn main() -> int { let b = box 1; let m = none[int]; return m?; }", (1, 8), (9, 1))
        self.traces("fn f(b: box int) -> int { } fn main() -> int { return f(box 1); }", (1, 3), (4, 1), (5, 1))
        lets = "".join(f"let b{at} = box {at}; " for at in range(25))
        found = trace_memory(read("fn main() -> unit { " + lets + "}"), (), 1000)
        self.assertEqual([row[0] for row in found], ["allocate"] * 25)
        found = trace_memory(read("fn main() -> unit { do main(); }"), (), 1000)
        self.assertEqual(found, tuple([("allocate", 1 + 2 * at, 2) for at in range(24)]))


class Lists(Running):
    BUILD = HEAD + """
        fn built(n: int) -> Link {
            let l = Link(0, none[box Link]); let k = 1;
            while (k < n) { l = Link(k, some box l); k = (k + 1); }
            return l;
        }
        fn at(l: &mut Link, n: int) -> &mut Link from l {
            let r = &mut l^;
            while (0 < n) { if r^.next is some { r = &mut r^.next?^; } else { } n = (n - 1); }
            return r;
        }
        fn sum(l: &Link) -> int {
            let s = l^.value;
            if l^.next is some { s = (s + sum(&l^.next?^)); } else { }
            return s;
        }
    """

    def test_built_and_walked_and_cut_off(self):
        text = self.BUILD + """fn main(n: int, k: int) -> int {
            let l = built(n); print sum(&l);
            let r = at(&mut l, k); r^.value = 100; r^.next = none[box Link]; print r^.value;
            let s = at(&mut l, (k - 1)); let rest = swap s^ with Link(7, none[box Link]);
            print sum(&rest); return sum(&l); }"""
        for n, k in ((5, 2), (8, 1), (20, 19), (3, 7), (23, 20)):
            rows = [n - 1 - at for at in range(n)][:k + 1]
            rows[-1] = 100
            at = min(k - 1, len(rows) - 1)
            self.ends(text, ("returned", ("int", sum(rows[:at]) + 7)), sum(range(n)), 100, sum(rows[at:]), arguments=(n, k), limit=10 ** 5)

    def test_each_block_but_those_of_the_value_is_released_once(self):
        text = self.BUILD + "fn main(n: int, k: int) -> Link { let l = built(n); let r = at(&mut l, k); r^.next = none[box Link]; return l; }"
        program = read(text)
        for n, k in ((1, 0), (6, 2), (10, 9), (20, 3), (20, 40)):
            ending, _ = self.run_all(program, (n, k), 10 ** 5)
            self.assertEqual(remaining(trace_memory(program, (n, k), 10 ** 5)), [3] * str(ending).count("box"))
            self.assertEqual(str(ending).count("'Link'"), min(k + 1, n))

    def test_every_limit(self):
        program = read(self.BUILD + "fn main() -> int { let l = built(3); let r = at(&mut l, 1); r^.value = 5; return sum(&l); }")
        count, found = 0, None
        while found is None or found[0] == ("running",):
            found = self.run_all(program, (), count)
            trace = trace_memory(program, (), count)
            self.assertEqual(trace, trace_memory(program, (), 10 ** 6)[:len(trace)])
            count += 1
        self.assertEqual(found, (("returned", ("int", 7)), ()))
        self.assertEqual(self.run_all(program, (), count + 1), found)


def remaining(trace):
    """The sizes of the blocks that were not released, where each release is of a block that exists."""
    blocks = {}
    for row in trace:
        if row[0] == "allocate":
            _, address, size = row
            assert not any(cell in range(at, at + blocks[at]) for at in blocks for cell in range(address, address + size))
            blocks[address] = size
        else:
            del blocks[row[1]]
    return list(blocks.values())


class Refusals(unittest.TestCase):
    def test_refused_programs(self):
        for text in (
            "fn main() -> unit { let b = box 1; do b; do b; }", "fn main() -> int { let x = 1; let r = &x; x = 2; return r^; }",
            "fn f(a: &int) -> &int { return a; } fn main() -> unit { }",
            # The problem is never reached.
            "fn main() -> unit { let b = box 1; while false { do b; } }",
        ):
            program = read(text)
            self.assertIsNotNone(check_program(program))
            for run in (run_memory, trace_memory):
                for limit in (0, 1, 1000):
                    with self.assertRaises(Refused) as caught:
                        run(program, (), limit)
                    self.assertIsInstance(caught.exception, LendError)

    def test_nothing_is_changed_and_all_is_said_again(self):
        program = read(Lists.BUILD + "fn main(n: int) -> Link { return built(n); }")
        before = copy.deepcopy(program)
        for run in (run_memory, trace_memory):
            found = run(program, (4,), 1000)
            self.assertIsInstance(found, tuple)
            self.assertEqual(run(program, (4,), 1000), found)
        self.assertEqual(program, before)


class DeepValues(Running):
    def test_records_in_records(self):
        count = 150
        records = "".join(f"record R{at} {{ a: R{at + 1} }} " for at in range(count)) + f"record R{count} {{ a: box int }} "
        lets = f"let v{count} = R{count}(box 7); " + "".join(f"let v{at} = R{at}(v{at + 1}); " for at in reversed(range(count)))
        tree = ("box", ("int", 7))
        for at in reversed(range(count + 1)):
            tree = ("record", f"R{at}", (tree,))
        program = read(records + "fn main() -> R0 { " + lets + "let r = &v0; let s = &mut v0; return v0; }")
        self.assertEqual(self.run_all(program), (("returned", tree), ()))
        program = read(records + "fn main() -> unit { " + lets + "}")
        self.assertEqual(remaining(trace_memory(program, (), 10000)), [])


class ManyKindsOfCells(Running):
    def test_places_in_all_kinds_of_values(self):
        text = HEAD + """fn main(n: int) -> int {
            let v = (1, some (2, box (3, Pair(4, box 5))), none[(int, int)]);
            let r = &mut v.1?.1^.1; r^.a = (r^.a + n); r^.b^ = 50;
            print v.1?.1^.0; print v.1?.1^.1.a; print v.1?.1^.1.b^; print v.1?.0;
            v.2 = some (n, 9); let m = &mut v.2; m^?.0 = 8; print v.2?.0; print v.2?.1;
            let s = (&v.1?.1, some &mut v.0); s.1?^ = 77; let t = &s.0^^; print t^.0; print t^.1.b^;
            v.1?.1 = box (30, Pair(40, box 60));
            let p = swap v.1?.1^.1 with Pair(6, box 7);
            print p.b^; print v.1?.1^.1.a;
            return ((v.0 + v.1?.1^.1.b^) + p.a); }"""
        self.ends(text, ("returned", ("int", 77 + 7 + 40)), 3, 14, 50, 2, 8, 9, 3, 50, 60, 6, arguments=(10,))

    def test_random_numbers_go_through_memory_unchanged(self):
        chance = random.Random(5)
        text = "fn main(a: int, b: bool, c: int) -> (box int, (maybe bool, int)) { let x = box a; let y = (some b, c); return (x, y); }"
        for _ in range(20):
            a, b, c = chance.randint(-2 ** 31, 2 ** 31 - 1), chance.random() < 0.5, chance.randint(-2 ** 31, 2 ** 31 - 1)
            tree = ("tuple", (("box", ("int", a)), ("tuple", (("some", ("bool", b)), ("int", c)))))
            self.ends(text, ("returned", tree), arguments=(a, b, c))
