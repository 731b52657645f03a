"""Sections 36 to 42. Where a program is accepted, the memory machine must say the same."""

import copy
import random
import unittest

from lendback.checker import check_program
from lendback.parser import parse_program
from lendback.valuemachine import run_values
from tests.accepted import LendingMaker
from tests.plain_values import PlainMachine
from tests.runs import Running, read
from tests.valid import INT, ValidMaker

HEAD = """
    record Pair { a: int, b: box int }
    record Link { value: int, next: maybe box Link }
    fn say(n: int) -> int { print n; return n; }
    fn truth(n: int, b: bool) -> bool { print n; return b; }
    fn set(r: &mut int, n: int) -> unit { r^ = n; }
    fn same(r: &mut int) -> &mut int from r { return r; }
    fn first(a: &int, b: &int) -> &int from a { return a; }
"""


class Values(Running):
    def test_trees_of_values(self):
        for kind, expression, tree in (
            ("int", "7", ("int", 7)), ("int", "-2147483648", ("int", -2147483648)), ("bool", "true", ("bool", True)),
            ("bool", "not true", ("bool", False)), ("unit", "unit", ("unit",)), ("maybe int", "none[int]", ("none",)),
            ("maybe maybe int", "some none[int]", ("some", ("none",))), ("box box int", "box box 1", ("box", ("box", ("int", 1)))),
            ("(int, bool)", "(1, false)", ("tuple", (("int", 1), ("bool", False)))),
            ("Pair", "Pair(1, box 2)", ("record", "Pair", (("int", 1), ("box", ("int", 2))))),
            ("(unit, maybe (bool, Pair), int)", "(unit, some (true, Pair(3, box 4)), 5)", ("tuple", (
                ("unit",), ("some", ("tuple", (("bool", True), ("record", "Pair", (("int", 3), ("box", ("int", 4))))))), ("int", 5)))),
            ("Link", "Link(1, some box Link(2, none[box Link]))", ("record", "Link", (
                ("int", 1), ("some", ("box", ("record", "Link", (("int", 2), ("none",)))))))),
        ):
            self.returns(f"return {expression};", tree, head=HEAD, kind=kind)

    def test_operations(self):
        for expression, number in (
            ("(2147483647 + 1)", -2147483648), ("(-2147483648 - 1)", 2147483647), ("(65536 * 65536)", 0), ("(65536 * 32768)", -2147483648),
            ("(-2147483648 * -1)", -2147483648), ("(2147483647 * 2147483647)", 1), ("(1 - 2)", -1), ("(-7 * 3)", -21),
            ("((2147483647 + 2147483647) + 2)", 0),
        ):
            self.returns(f"return {expression};", ("int", number))
        for expression, truth in (
            ("(1 < 2)", True), ("(2 < 2)", False), ("(-2147483648 < 2147483647)", True), ("(3 == 3)", True), ("(3 == 4)", False),
            ("(true and false)", False), ("(true and true)", True), ("(false or true)", True), ("(false or false)", False),
            ("not (true or false)", False),
        ):
            self.returns(f"return {expression};", ("bool", truth), kind="bool")
        self.returns("let m = some none[int]; return (m is some, m? is some);", ("tuple", (("bool", True), ("bool", False))),
                     kind="(bool, bool)")

    def test_a_copy_is_a_value_of_its_own(self):
        self.returns("let m = some 1; let k = m; m? = 5; return ((k? * 10) + m?);", ("int", 15))
        self.returns("let t = ((1, 2), some (3, 4)); let u = t; t.0.0 = 5; t.1?.1 = 6; u.0.1 = 7; return (u, t);", ("tuple", (
            ("tuple", (("tuple", (("int", 1), ("int", 7))), ("some", ("tuple", (("int", 3), ("int", 4)))))),
            ("tuple", (("tuple", (("int", 5), ("int", 2))), ("some", ("tuple", (("int", 3), ("int", 6)))))),
        )), kind="(((int, int), maybe (int, int)), ((int, int), maybe (int, int)))")
        self.returns("let t = (1, 2); let r = &mut t; let u = r^; r^.0 = 5; return (u.0 + t.0);", ("int", 6))
        self.returns("let t = (some 1, 2); let s = &t; let u = s^; u.0? = 5; return (s^.0? + u.0?);", ("int", 6))

    def test_arguments(self):
        text = "fn main(a: int, b: bool, c: int) -> (int, (bool, int)) { if b { print a; } else { print c; } return (a, (b, c)); }"
        for a, b, c in ((1, True, 2), (-2147483648, False, 2147483647), (0, False, 0)):
            tree = ("tuple", (("int", a), ("tuple", (("bool", b), ("int", c)))))
            self.ends(text, ("returned", tree), a if b else c, arguments=(a, b, c))

    def test_the_order_of_evaluation(self):
        self.returns("return ((say(1) - say(2)) * say(say(3)));", ("int", -3), 1, 2, 3, 3, head=HEAD)
        self.returns("return (truth(1, false) and truth(2, true));", ("bool", False), 1, 2, head=HEAD, kind="bool")
        self.returns("return (truth(1, true) or truth(2, true));", ("bool", True), 1, 2, head=HEAD, kind="bool")
        self.returns("let p = Pair(say(1), box say(2)); let t = (say(3), some say(4)); p.a = say(5); return swap p.a with say(6);",
                     ("int", 5), 1, 2, 3, 4, 5, 6, head=HEAD)
        self.returns("let x = 1; return (x + swap x with 5);", ("int", 2))
        self.returns("let x = 1; return (swap x with 5 - x);", ("int", -4))

    def test_statements(self):
        self.returns("if (1 < 2) { print 1; } else { print 2; } if false { print 3; } else { print 4; } return 5;", ("int", 5), 1, 4)
        self.returns("let n = 3; while (0 < n) { print n; n = (n - 1); let m = n; print (m * m); } return n;",
                     ("int", 0), 3, 4, 2, 1, 1, 0)
        self.returns("while false { print 1; } while true { return 2; } return 3;", ("int", 2))
        self.returns("let x = box 1; x = box 2; x^ = 3; do x^; return unbox x;", ("int", 3))

    def test_the_end_of_a_function(self):
        self.stops("print 1;", "no value", 1)
        self.stops("let x = g(); print 2; return 1;", "no value", 1, head="fn g() -> int { if true { print 1; } else { return 5; } }")
        self.returns("do g(); do g(); return 1;", ("int", 1), 7, 7, head="fn g() -> unit { print 7; }")
        self.returns("", ("unit",), kind="unit")

    def test_empty(self):
        for statement in ("do m?;", "m? = 1;", "do &m?;", "do &mut m?;", "do swap m? with 1;", "print m?;"):
            self.stops("let m = none[int]; print 1; " + statement + " return 2;", "empty", 1)
        for statement in ("do m?.0;", "m?.1 = box 1;", "do m?.1;", "do m?.1^;", "do &m?.1;", "print m?.0;"):
            self.stops("let m = none[(int, box int)]; " + statement + " return 2;", "empty")
        self.stops("let m = some none[int]; do m? is some; do m is some; print 1; do m??; return 1;", "empty", 1)
        self.stops("let m = none[maybe int]; if m is some { print 1; } else { print 2; } do m? is some; return 1;", "empty", 2)
        self.stops("let m = some box none[int]; let r = &mut m; r^? = box none[int]; do r^?^?; return 1;", "empty")


class Limits(Running):
    def test_the_instruction_that_ends_a_run_counts(self):
        text = "fn main(a: int) -> int { let x = (a, 2); let r = &mut x.0; r^ = 5; print x.0; return x.1; }"
        for limit in range(10):
            self.ends(text, ("running",), arguments=(1,), limit=limit)
        for limit in range(10, 15):
            self.ends(text, ("running",), 5, arguments=(1,), limit=limit)
        for limit in (15, 16, 10 ** 9):
            self.ends(text, ("returned", ("int", 2)), 5, arguments=(1,), limit=limit)

    def counts(self, text, count, ending, *printed, refused=False):
        """A run ends with this number of instructions, and not with fewer ones."""
        check = self.ends_refused if refused else self.ends
        check(text, ending, *printed, limit=count)
        check(text, ending, *printed, limit=count + 1)
        found = run_values(read(text), (), count - 1)
        self.assertEqual(found[0], ("running",))

    def test_each_way_to_end(self):
        self.counts("fn main() -> unit { }", 2, ("returned", ("unit",)))
        self.counts("fn main() -> int { }", 1, ("stopped", "no value"))
        self.counts("fn main() -> int { print 1; }", 3, ("stopped", "no value"), 1)
        self.counts("fn main() -> int { let m = none[int]; return m?; }", 3, ("stopped", "empty"))
        self.counts("fn main() -> unit { let b = box 1; do b; do b; }", 6, ("stopped", "dead"), refused=True)
        self.counts("fn main() -> unit { let f = 1; do main(); }", 3 * 24, ("stopped", "deep"))
        self.counts("fn f() -> int { return 1; } fn main() -> int { return f(); }", 4, ("returned", ("int", 1)))

    def test_calls_tests_and_jumps_count(self):
        # if: set, test, then the block, jump; each round of the loop: set, test, jump.
        self.counts("fn main() -> unit { if true { } else { } }", 5, ("returned", ("unit",)))
        self.counts("fn main() -> unit { if false { } else { } }", 4, ("returned", ("unit",)))
        text = "fn main() -> unit { let n = 2; while (0 < n) { n = (n - 1); } }"
        self.counts(text, 2 + 2 * (4 + 4 + 1) + 4 + 3, ("returned", ("unit",)))
        self.ends("fn main() -> unit { while true { print 1; } }", ("running",), *[1] * 10, limit=4 + 9 * 5)

    def test_no_instruction(self):
        self.ends("fn main() -> int { }", ("running",), limit=0)
        self.ends_refused("fn main() -> unit { let b = box 1; do b; do b; }", ("running",), limit=0)


class FullAndDeep(Running):
    def boxes(self, count, *, head="", behind=""):
        lets = "".join(f"let b{at} = box {at}; " for at in range(count))
        return f"{head} fn main() -> int {{ {lets} print 0; {behind} return {count}; }}"

    def test_24_boxes_and_one_more(self):
        self.ends(self.boxes(24), ("returned", ("int", 24)), 0)
        self.ends(self.boxes(25), ("stopped", "full"))
        self.ends(self.boxes(24, behind="do box 1;"), ("stopped", "full"), 0)
        self.ends(self.boxes(23, behind="do box 1; do box 2; print 1;"), ("returned", ("int", 23)), 0, 1)
        self.ends(self.boxes(23, behind="do box box 1;"), ("stopped", "full"), 0)

    def test_boxes_that_cease_to_exist(self):
        for statement in ("do b0;", "do unbox b0;", "let z = unbox b0;"):
            self.ends(self.boxes(24, behind=statement + " let y = box 5; print y^; do box 7;"), ("stopped", "full"), 0, 5)
        # The new box is made before the old one is dropped.
        self.ends(self.boxes(24, behind="b0 = box 5;"), ("stopped", "full"), 0)
        self.ends(self.boxes(23, behind="b0 = box 5; b0 = box 6; print b0^;"), ("returned", ("int", 23)), 0, 6)
        self.ends(self.boxes(23, behind="do swap b0 with box 5; do swap b0 with box 6; print b0^;"), ("returned", ("int", 23)), 0, 6)
        self.ends(self.boxes(22, behind="if true { let y = (box 1, box 2); } else { } let z = (box 1, box 2); do box 1;"),
                  ("stopped", "full"), 0)

    def test_boxes_within_borrows(self):
        # The copy in a shared borrow does not count.
        self.ends(self.boxes(22, behind="let p = (box 1, 2); let r = &p; let s = r; do box 3; print s^.0^;"), ("returned", ("int", 22)), 0, 1)
        self.ends(self.boxes(22, behind="let p = (box 1, 2); let r = &p; let s = r; let y = box 3; do box 4;"), ("stopped", "full"), 0)
        # The value in an exclusive borrow does, also if the borrow was dropped.
        for lend in ("let r = &mut p;", "do &mut p;", "let r = &mut p; do r;", "let r = &mut p; r = &mut r^;", "do swap p.0 with 1;"):
            behind = "let p = (1, box 1); " + lend + " let y = box 3; print y^; do box 4;"
            self.ends(self.boxes(22, behind=behind), ("stopped", "full"), 0, 3)
        for lend in ("do &mut p.1;", "do &mut p;", "do &p.1^;", "let r = &mut p.1^; let s = &mut r^;"):
            behind = "if true { let p = (1, box 1); " + lend + " } else { } let y = box 3; print y^; let z = box 4; do box 5;"
            self.ends(self.boxes(22, behind=behind), ("stopped", "full"), 0, 3)
        behind = "let p = (1, box 1); let r = &mut p; r^.1 = box 2; p = (3, box 4); let y = box 5; do box 6;"
        self.ends(self.boxes(21, behind=behind + " print 1;"), ("returned", ("int", 21)), 0, 1)

    def test_boxes_of_calls(self):
        head = "fn keep(b: box int) -> box int { return b; } fn lose(b: box int, c: (int, box int)) -> unit { print 5; }"
        self.ends(self.boxes(23, head=head, behind="let y = keep(box 1); do keep(y); do box 2; print 1;"), ("returned", ("int", 23)), 0, 1)
        self.ends(self.boxes(22, head=head, behind="do lose(box 1, (2, box 3)); do lose(box 1, (2, box 3));"), ("returned", ("int", 22)), 0, 5, 5)
        self.ends(self.boxes(23, head=head, behind="do lose(box 1, (2, box 3));"), ("stopped", "full"), 0)

    def test_a_list_of_boxes(self):
        text = HEAD + """fn main(n: int) -> int {
            let l = none[box Link]; let k = 0;
            while (k < n) { l = some box Link(k, swap l with none[box Link]); k = (k + 1); print k; }
            return k; }"""
        self.ends(text, ("returned", ("int", 24)), *range(1, 25), arguments=(24,))
        self.ends(text, ("stopped", "full"), *range(1, 25), arguments=(25,))

    def test_24_calls_and_one_more(self):
        text = "fn down(n: int) -> int { print n; if (n == 0) { return 0; } else { } return (down((n - 1)) + 1); } " \
            "fn main(n: int) -> int { return down(n); }"
        self.ends(text, ("returned", ("int", 22)), *range(22, -1, -1), arguments=(22,))
        self.ends(text, ("stopped", "deep"), *range(23, 0, -1), arguments=(23,))
        text = "fn f() -> unit { } fn main() -> unit { let n = 30; while (0 < n) { do f(); n = (n - 1); } print 1; }"
        self.ends(text, ("returned", ("unit",)), 1)

    def test_dead_comes_before_deep(self):
        # A call is due that takes a dead borrow, while 24 calls are open.
        text = "fn g(r: &mut int, n: int) -> unit { } fn down(n: int) -> unit { let x = 1; let r = &mut x; " \
            "if (n == 0) { do g(r, %s); } else { do down((n - 1)); } } fn main(n: int) -> unit { do down(n); }"
        self.ends(text % "1", ("stopped", "deep"), arguments=(22,))
        self.ends(text % "1", ("returned", ("unit",)), arguments=(21,))
        self.ends_refused(text % "x", ("stopped", "dead"), arguments=(22,))


class ExclusiveLoans(Running):
    def test_the_value_goes_to_the_borrower_and_back(self):
        self.returns("let x = 1; let r = &mut x; r^ = 5; print r^; return x;", ("int", 5), 5)
        self.returns("let x = 1; do set(&mut x, 7); print x; do set(&mut x, 8); return x;", ("int", 8), 7, head=HEAD)
        self.returns("let x = 1; let r = same(&mut x); r^ = (r^ + 2); return x;", ("int", 3), head=HEAD)
        self.returns("let p = Pair(1, box 2); let r = &mut p.b; let s = &mut p.a; r^^ = 3; s^ = 4; return (p.a + p.b^);",
                     ("int", 7), head=HEAD)
        self.returns("let x = (1, 2); let m = some &mut x; m?^.1 = 5; return x.1;", ("int", 5))
        self.returns("let x = 1; let y = 2; let v = (&mut x, &mut y); v.0^ = 5; v.1^ = 6; return ((x * 10) + y);", ("int", 56))

    def test_borrows_that_were_dropped_give_it_back(self):
        self.returns("let x = 1; if true { let r = &mut x; r^ = 5; } else { } return x;", ("int", 5))
        self.returns("let x = 1; let y = 2; let r = &mut x; r^ = 5; r = &mut y; r^ = 6; return ((x * 10) + y);", ("int", 56))
        self.returns("let x = 1; let r = &mut x; r^ = 5; do r; return x;", ("int", 5))
        self.returns("let x = 1; let y = 2; let v = (&mut x, some &mut y); v.0^ = 3; v.1?^ = 4; do v; return ((x * 10) + y);", ("int", 34))

    def test_borrows_of_what_is_borrowed(self):
        self.returns("let x = (1, 2); let r = &mut x; let s = &mut r^.0; let t = &mut s^; t^ = 5; s^ = (s^ + 1); r^.1 = 7; "
                     "return ((x.0 * 10) + x.1);", ("int", 67))
        self.returns("let x = (1, (2, 3)); let r = &mut x; let s = &mut r^.1; s^.0 = 8; return (x.1.0 + x.1.1);", ("int", 11))
        self.returns("let x = 1; let n = 5; let r = &mut x; while (0 < n) { r = &mut r^; r^ = (r^ + n); n = (n - 1); } return x;",
                     ("int", 16))

    def test_a_very_long_chain_of_borrows(self):
        text = "fn main(n: int) -> int { let x = 1; let r = &mut x; while (0 < n) { r = &mut r^; n = (n - 1); } r^ = 7; return x; }"
        self.assertEqual(run_values(parse_program(text), (5000,), 10 ** 6), (("returned", ("int", 7)), ()))

    def test_a_list_that_is_walked_and_cut_off(self):
        text = HEAD + """fn main(n: int, at: int) -> unit {
            let l = Link(0, none[box Link]); let k = 1;
            while (k < n) { l = Link(k, some box l); k = (k + 1); }
            let r = &mut l;
            while (0 < at) { if r^.next is some { r = &mut r^.next?^; r^.value = (r^.value * 10); } else { } at = (at - 1); }
            r^.next = none[box Link];
            let s = &l; let more = true;
            while more { print s^.value; if s^.next is some { s = &s^.next?^; } else { more = false; } }
        }"""
        self.ends(text, ("returned", ("unit",)), 5, 40, 30, arguments=(6, 2))
        self.ends(text, ("returned", ("unit",)), 5, arguments=(6, 0))
        self.ends(text, ("returned", ("unit",)), 2, 10, 0, arguments=(3, 9))
        text = text.replace("l = Link(k, some box l);", "l = Link(k, some box swap l with Link(0, none[box Link]));")
        self.ends(text, ("returned", ("unit",)), 5, 40, 30, arguments=(6, 2))

    def test_accesses_that_end_them(self):
        for access in ("do x;", "do x.0;", "let y = x;", "let y = (3, (x, 4));", "let y = &x;", "do &x.0;", "do &mut x;", "x = (5, 6);",
                       "x.0 = 5;", "do swap x with (5, 6);", "do swap x.0 with 5;"):
            self.dies("let x = (1, 2); let r = &mut x.0; print r^; " + access + " print 7; print r^;", 1, 7)
            self.lives("let x = (1, 2); let r = &mut x.0; " + access + " if false { print r^; } else { }")
        for access in ("do x.1;", "do &x.1;", "do &mut x.1;", "x.1 = 5;", "do swap x.1 with 5;"):
            self.returns("let x = (1, 2); let r = &mut x.0; " + access + " return r^;", ("int", 1))
        self.dies("let x = (1, 2); let r = &mut x; print r^.1; do x.0; print r^.0;", 2)
        self.dies("let p = (box 1, 2); let r = &mut p.0; print r^^; do p; print 8; print r^^;", 1, 8)
        self.dies("let p = (box 1, 2); let r = &mut p.0^; print r^; do p.0; print 8; print r^;", 1, 8)
        self.dies("let p = some (1, 2); let r = &mut p?.0; print r^; do p is some; print 8; print r^;", 1, 8)
        self.dies("let p = (some 1, 2); let r = &mut p; print r^.1; do p.0 is some; print 8; print r^.1;", 2, 8)

    def test_variables_that_end(self):
        for borrow in ("&mut x.0", "&mut x", "&x", "&x.0"):
            kind = borrow.replace("x.0", "int").replace("x", "(int, int)")
            use = "r?^.0" if "x.0" not in borrow else "r?^"
            self.dies(f"let r = none[{kind}]; if true {{ let x = (1, 2); r = some {borrow}; print {use}; }} else {{ }} print 5; print {use};", 1, 5)

    def test_ending_one_ends_those_of_its_content_first(self):
        self.dies("let x = (1, 2); let r = &mut x; let s = &mut r^.0; s^ = 5; print x.0; print s^;", 5)
        self.dies("let x = (1, 2); let r = &mut x; let s = &r^.0; print s^; print x.0; print s^;", 1, 1)
        self.dies("let x = (1, 2); let r = &mut x; let s = &mut r^; let t = &mut s^.1; t^ = 5; x.0 = 9; print x.1; print s^.0;", 5)
        self.dies("let x = (1, 2); let r = &mut x; let v = (1, some &mut r^.0); do x; print 4; print v.1?^;", 4)
        # Both loans stand within the place, and the second ends together with the first.
        self.returns("let x = (1, 2); let v = (&mut x, none[&mut (int, int)]); v.1 = some &mut v.0^; let s = &v.1?^.0; print s^; "
                     "do v; x.1 = 5; return (x.0 + x.1);", ("int", 6), 1)

    def test_a_borrow_that_is_a_temporary(self):
        self.dies("let x = 1; print 3; do (&mut x, x);", 3)
        self.dies("let x = 1; let y = same(&mut x); print 3; do g(&mut x, x);", 3, head=HEAD + "fn g(r: &mut int, n: int) -> unit { }")
        self.lives("let x = 1; let r = &mut x; do swap x with 2; if false { do r; } else { } print x;", 2)


class SharedLoans(Running):
    def test_a_copy_is_as_good_as_the_value(self):
        self.returns("let x = 1; let r = &x; let s = &x; let t = r; return (((x + r^) + s^) + t^);", ("int", 4))
        self.returns("let p = Pair(1, box 2); let r = &p; let s = &r^.b; let t = &s^^; return ((t^ + s^^) + r^.b^);", ("int", 6), head=HEAD)
        self.returns("let x = 1; let y = 2; let r = first(&x, &y); y = 5; return (r^ + y);", ("int", 6), head=HEAD)
        self.returns("let x = 1; let m = some &x; let v = (m, m); if v.1 is some { return v.0?^; } else { return 0; }", ("int", 1))

    def test_accesses_that_end_them(self):
        for access in ("do &mut x;", "do &mut x.0;", "x = (5, 6);", "x.0 = 5;", "do swap x with (5, 6);", "do swap x.0 with 5;"):
            self.dies("let x = (1, 2); let r = &x.0; print r^; " + access + " print 7; print r^;", 1, 7)
            # A tag on the way to the place.
            self.dies("let x = (1, 2); let r = &x; print r^.1; " + access + " print 7; print r^.1;", 2, 7)
        for access in ("do x;", "do x.0;", "do &x;", "do &x.0;", "x.1 = 5;", "do &mut x.1;", "do swap x.1 with 5;"):
            self.returns("let x = (1, 2); let r = &x.0; " + access + " return r^;", ("int", 1))
        self.returns("let m = some (1, 2); let r = &m?.0; let s = &m; if m is some { return (r^ + s^?.1); } else { return 0; }", ("int", 3))
        self.dies("let p = (box 1, 2); let r = &p.0^; print r^; do p; print 8; print r^;", 1, 8)
        self.returns("let p = (box 1, 2); let r = &p.1; do p.0; return r^;", ("int", 2))

    def test_all_borrows_of_a_loan_end_together(self):
        head = "let x = (1, (2, 3)); let r = &x; let s = r; let t = &r^.1; let m = some (t, 4); "
        for use in ("r^.0", "s^.0", "t^.0", "m?.0^.0"):
            self.dies(head + "print " + use + "; x.0 = 5; print 9; print " + use + ";", 1 if use[0] in "rs" else 2, 9)
        self.returns(head + "let n = m?.1; x.0 = 5; return (n + x.0);", ("int", 9))

    def test_two_loans_of_one_place(self):
        self.dies("let x = 1; let r = &x; let s = &x; x = 2; print 3; print s^;", 3)
        self.returns("let x = 1; let r = &x; x = 2; r = &x; return r^;", ("int", 2))

    def test_a_very_large_number_of_loans_of_one_place(self):
        text = "fn main(n: int) -> int { let x = 1; while (0 < n) { do &x; n = (n - 1); } x = 2; return x; }"
        self.assertEqual(run_values(parse_program(text), (5000,), 10 ** 6), (("returned", ("int", 2)), ()))

    def test_a_shared_borrow_of_what_is_borrowed(self):
        self.returns("let x = (1, 2); let r = &mut x; r^.0 = 5; let s = &r^; print s^.0; let t = &r^.1; return ((s^.0 + t^) + r^.0);", ("int", 12), 5)
        self.dies("let x = (1, 2); let r = &mut x; let s = &r^.0; r^.0 = 3; print 4; print s^;", 4)
        self.dies("let x = (1, 2); let r = &mut x; let s = &r^; r^.0 = 3; print 4; print s^.1;", 4)


class MovedPlaces(Running):
    def test_a_place_whose_value_was_moved(self):
        for use in ("do b;", "do &b;", "do &mut b;", "print b.0^;", "b.0 = box 5;", "b.0^ = 5;", "do swap b with (box 1, 2);", "do b.1;"):
            self.dies("let b = (box 1, 2); print 1; do b; print 2; " + use, 1, 2)
        for use in ("do b;", "do b.0;", "do &b;", "do &mut b;", "do b.0^;", "b.0^ = 5;", "do swap b.0 with box 1;", "do swap b with (box 1, 2);"):
            self.dies("let b = (box 1, 2); print 1; do b.0; print 2; " + use, 1, 2)

    def test_dead_values_that_do_no_harm(self):
        self.returns("let b = (box 1, 2); do b.0; print b.1; b.1 = 3; do &mut b.1; do swap b.1 with 4; return b.1;", ("int", 4), 2)
        self.returns("let b = (box 1, 2); do b; b = (box 3, 4); return (b.0^ + b.1);", ("int", 7))
        self.returns("let b = (box 1, 2); do b.0; b.0 = box 5; return (b.0^ + b.1);", ("int", 7))
        self.returns("let b = (box 1, 2); do b.0; b = (box 6, 7); return (b.0^ + b.1);", ("int", 13))
        self.returns("let b = (box 1, 2); do b.0; if true { let c = box 1; do c; } else { } return b.1;", ("int", 2))
        self.returns("let x = 1; let v = (&mut x, 2); x = 5; let n = v.1; v.0 = &mut x; v.0^ = 6; return (n + x);", ("int", 8))

    def test_is_asks_only_for_the_place_itself(self):
        self.lives("let m = some box 1; do m?; if m is some { print 1; } else { print 2; }", 1)
        self.lives("let m = (some box 1, 3); do m.0?; if m.0 is some { print 1; } else { print 2; }", 1)
        self.dies("let m = some box 1; do m; print 3; do m is some;", 3)
        self.dies("let m = (some box 1, 3); do m; print 3; do m.0 is some;", 3)
        self.dies("let m = some some box 1; do m?; print 3; do m? is some;", 3)
        self.returns("let x = 1; let m = some &mut x; x = 2; if m is some { return 3; } else { return 4; }", ("int", 3))

    def test_a_moved_borrow(self):
        self.dies("let x = 1; let r = &mut x; let s = r; print s^; print r^;", 1)
        self.returns("let x = 1; let r = &mut x; let s = r; s^ = 2; r = s; r^ = (r^ + 1); return x;", ("int", 3))


class WhatTakesTemporaries(Running):
    def test_they_stop_at_dead_values(self):
        head = HEAD + "fn two(r: &mut int, n: int) -> unit { print 9; } fn back(n: int) -> &mut int { let x = n; return &mut x; }"
        for block in (
            # A borrow in a temporary dies by the access of a later expression.
            "let x = 1; print 2; do (&mut x, x);", "let x = 1; print 2; do two(&mut x, x);", "print 2; do back(5);",
        ):
            self.dies(block + " print 3;", 2, head=head)
        # The move itself ends a loan of what it moves, and `let` finds the dead borrow.
        self.dies("let x = (1, 2); let v = (&mut x, none[&mut int]); v.1 = some &mut v.0^.0; print 2; let w = v; print 3;", 2, head=head)
        self.dies("let x = (1, 2); let y = (3, 4); let v = (&mut x, none[&mut int]); let w = (&mut y, none[&mut int]); "
                  "v.1 = some &mut v.0^.0; print 2; w = v; print 3;", 2, head=head)

    def test_drop_does_not(self):
        self.returns("let x = (1, 2); let v = (&mut x, none[&mut int]); v.1 = some &mut v.0^.0; v.1?^ = 5; do v; return x.0;", ("int", 5))

    def test_the_temporary_is_asked_before_the_place(self):
        block = "let x = (1, 2); let v = (&mut x, none[&mut int]); v.1 = some &mut v.0^.0; " \
            "let m = none[(&mut (int, int), maybe &mut int)]; print 2; "
        self.dies(block + "m? = v;", 2)
        self.stops(block + "m? = (&mut x, none[&mut int]); return 1;", "empty", 2)

    def test_a_store_ends_loans_of_what_it_stores(self):
        self.dies("let v = (1, none[&int]); v = (5, some &v.0); print v.0; print v.1?^;", 5)
        self.returns("let v = (1, none[&int]); v = (5, some &v.0); v.1 = some &v.0; return (v.0 + v.1?^);", ("int", 10))
        self.returns("let x = (1, 2); let r = &mut x; r = &mut r^; r^.0 = 5; return x.0;", ("int", 5))
        # What an exclusive borrow within the place contains is left alone.
        self.returns("let x = (1, (2, 3)); let r = &mut x.1; let s = &mut r^.0; let y = (7, 8); r = &mut y; s^ = 5; r^.0 = 6; "
                     "return ((x.1.0 * 10) + y.0);", ("int", 56))
        self.returns("let x = (1, (2, 3)); let r = (&mut x.1, 4); let s = &r.0^.0; let y = (7, 8); r = (&mut y, 5); return s^;", ("int", 2))

    def test_a_drop_leaves_what_a_borrow_contains(self):
        head = HEAD + "fn part(r: &mut (int, int)) -> &mut int from r { let s = &mut r^.1; return s; }"
        self.returns("let x = (1, 2); let p = part(&mut x); p^ = 5; return x.1;", ("int", 5), head=head)
        self.returns("let x = (1, 2); let p = part(&mut x); p^ = 5; let q = part(&mut x); q^ = (q^ + 1); return x.1;", ("int", 6), head=head)


class Programs(Running):
    def test_many_forms_under_every_limit(self):
        text = HEAD + """fn swap_in(m: &mut maybe box int, n: int) -> maybe box int { return swap m^ with some box n; }
            fn main(n: int, b: bool) -> (int, maybe box int) {
                let m = none[box int]; let p = Pair((n - 1), box n); let t = (p.a, (unit, b));
                let old = swap_in(&mut m, 5);
                while ((0 < n) and not t.1.1) {
                    let r = &mut p.b; r^^ = (r^^ * 3); n = (n - 1);
                    if (m is some or old is some) { let q = &m?^; print q^; m = swap_in(&mut m, n); } else { return (1, m); }
                }
                do unbox p.b; old = some box p.a;
                return (old?^, m);
            }"""
        program = read(text)
        for arguments in ((2, False), (3, True)):
            ends = [self.run_all(program, arguments, limit) for limit in range(140)]
            self.assertEqual(len(set([ending for ending, _ in ends])), 2)
            self.assertEqual(ends[-1][0][0], "returned")
            printed = [row for _, row in ends]
            self.assertEqual(printed, sorted(printed, key=len))

    def test_nothing_is_changed_and_all_is_said_again(self):
        for seed in range(40):
            program = LendingMaker(seed).program()
            before = copy.deepcopy(program)
            arguments = tuple([1 if kind == INT else True for _, kind in [row for row in program[1] if row[0] == "main"][0][1]])
            found = run_values(program, arguments, 100)
            self.assertEqual(run_values(program, arguments, 100), found)
            self.assertEqual(program, before)


class RandomPrograms(unittest.TestCase):
    def test_they_run_as_the_document_says_word_for_word(self):
        endings = {}
        for maker, seeds, most in ((ValidMaker, 300, 5), (LendingMaker, 500, 10)):
            for seed in range(seeds):
                program = maker(seed, most).program()
                chance = random.Random(seed)
                (parameters,) = [row[1] for row in program[1] if row[0] == "main"]
                arguments = tuple([chance.choice((0, 1, -5, 2147483647)) if kind == INT else chance.random() < 0.5
                                   for _, kind in parameters])
                found = run_values(program, arguments, 150)
                self.assertEqual(PlainMachine(program, arguments).run(150), found)
                word = found[0][1] if found[0][0] == "stopped" else found[0][0]
                endings[word] = endings.get(word, 0) + 1
                if word == "dead":
                    self.assertIsNotNone(check_program(program))
        for word in ("returned", "running", "no value", "empty", "dead", "deep"):
            self.assertGreater(endings[word], 20)
