from tests.kind_problems import INT, MAIN, UNIT, Kinding, cases, of_cells, problem

ONE = ("int", 1)
PRELUDE = (
    "record Pair { a: int, b: box int } record Node { next: maybe box Node, value: int } "
    "fn give(a: &int, b: &mut int) -> &int from a { return a; } fn eat(p: Pair, n: int) -> unit { } "
)
LETS = (
    "let i = 1; let k = 2; let c = true; let b = box box 3; let t = (i, c, box 4); let m = some (1, box 2); "
    "let p = Pair(1, box 2); let n = Node(none[box Node], 5); let s = &t; let r = &mut k; let q = &mut n; "
    "let v = (&i, some &p); "
)
# Behind the expression in the braces, much is wrong in another way.
AROUND = cases("""
    do {}; | let fresh = {}; | let x = {}; | print {}; | return {}; | zz = {}; | i.0 = {};
    | if {} OPEN print zz; CLOSE else OPEN CLOSE | while {} OPEN print zz; CLOSE | do (1, {}, zz); | do zz({}); | do Zz({}, zz);
    | do ({} + true); | do (1 and {}); | do not {}; | do some {}; | do box box {}; | do unbox {}; | do Pair({});
    | do eat(1, {}, 2); | do swap i.0 with {}; | if c OPEN do {}; CLOSE else OPEN do zz; CLOSE
    | if c OPEN CLOSE else OPEN do {}; CLOSE | while c OPEN do {}; print zz; CLOSE
""".replace("OPEN", "{{").replace("CLOSE", "}}"))


class Blocks(Kinding):
    def body(self, text):
        return PRELUDE + "fn main(x: int, y: bool) -> int { " + LETS + text + " }"

    def holds(self, texts):
        for text in cases(texts):
            self.passes(self.body(text))

    def stops(self, reason, texts):
        for text in cases(texts):
            self.fails("main", reason, self.body(text))

    def expressions(self, reason, texts):
        """Each of these expressions has the problem, wherever it stands."""
        for text in cases(texts):
            for row in AROUND:
                self.fails("main", reason, self.body(row.format(text)))


class Scopes(Blocks):
    def test_declared(self):
        self.stops("declared", """
            let x = 1; | let i = 1; | let main = 1; let main = 2; | if c { let z = 1; } else { let z = 1; }
            | if c { let z = 1; } else { } let z = 1; | while c { let z = 1; } let z = 2;
            | while c { while c { let z = 1; } let z = 1; } | if c { let i = 1; } else { }
            | let z = 1; while c { let z = 2; } | return 1; let y = 2; """)
        self.holds("if c { let z = 1; print z; } else { let w = 2; print w; } let u = 1; | let main = 1; let eat = 2;")
        self.passes("fn f() -> int { let z = 1; return z; } fn main() -> int { let z = 2; let f = 3; return (z + f()); }")
        self.fails("f", "declared", "fn f(a: int) -> int { if true { let a = 1; } else { } }" + MAIN)

    def test_declared_comes_after_the_expression(self):
        self.stops("unknown", "let x = zz; | let i = (1, zz);")
        self.stops("kind", "let x = (true + 1);")
        self.stops("move", "let i = b^;")
        self.stops("declared", "let x = true; | let i = i;")

    def test_out_of_scope(self):
        self.stops("unknown", """
            let z = z; | print z; let z = 1; | if c { let z = 1; } else { print z; } | if c { let z = 1; } else { } print z;
            | while c { let z = 1; } print z; | if c { if c { let z = 1; } else { } print z; } else { } | z = 1; let z = 1;
            | while z { let z = c; } | if z { let z = c; } else { } """)
        self.fails("main", "unknown", "fn f(a: int) -> int { return a; } fn main() -> int { return a; }")
        self.fails("g", "unknown", "fn f() -> int { let z = 1; } fn g() -> int { return z; }" + MAIN)
        self.holds("if c { let z = 1; while c { print z; let w = z; i = w; } print z; } else { print i; }")

    def test_unknown(self):
        self.expressions("unknown", """
            zz | zz.0 | &zz | &mut zz^ | zz is some | zz? is some | swap zz with 1 | zz() | zz(1, true) | Zz() | Zz(1)
            | Zz(some 1, c) | x() | main2() | node | zz^^^^^^^^^^^^^^ """)
        self.stops("unknown", "zz = 1; | zz.0 = true; | zz^^^^^^^^^^^^^^ = 1;")

    def test_unknown_functions_and_records_come_after_their_expressions(self):
        self.expressions("step", "zz(i.0) | Zz(1, i^)")
        self.expressions("kind", "zz((1 + true)) | Zz(not 1)")
        self.expressions("unknown", "zz(zz(1)) | eat(zz) | Pair(1, zz, 3)")


class Steps(Blocks):
    def test_step(self):
        for place in (
            "i.0 i^ i? i.a c.1 b.0 b? b^^^ b.a t.3 t.4 t.9999999999 t.a t? t^ m.0 m^ m.a m?.2 m?? p.c p.0 p^ p? p.b^^ "
            "p.a.a n.next^ n.next?.value n.next?^.x n.next.0 s.0 s? s^.3 s^^ r.0 r^^ q.value q^.nexts q^^ v.2 v.1^ "
            "v.0^^ v.1?.a v.1?^.c"
        ).split():
            self.expressions("step", f"{place} | &{place} | &mut {place} | {place} is some | swap {place} with 1")
            self.stops("step", f"{place} = 1; | {place} = c;")

    def test_twelve_steps(self):
        node, link = "n" + ".next?^" * 4, "q^" + ".next?^" * 3 + ".next?"
        self.holds(f"do &{node}; | do &mut {node}; | {node} = Node(none[box Node], 1); | do swap {node} with n;")
        self.holds(f"do &{link}; | do &mut {link}; | {link} = box n; | do swap {link} with box n;")
        three, eleven = "n" + ".next?^" * 3, "q^" + ".next?^" * 3
        self.holds(f"print {three}.value; | do {three}.next is some; | do {eleven}.next is some; | print {eleven}.value;")

    def test_more_than_twelve_steps(self):
        for place in ("n" + ".next?^" * 4 + ".next", "n" + ".next?^" * 4 + ".value", "q^" + ".next?^" * 4, "n" + ".next?^" * 7):
            self.expressions("step", f"{place} | &{place} | &mut {place} | {place} is some | swap {place} with c")
            self.stops("step", f"{place} = 1; | {place} = n;")

    def test_step_comes_before_what_follows(self):
        self.expressions("step", "&s.0 | swap s.0 with 1 | &mut s^.3 | i.0 is some | b^^^")
        self.stops("step", "s^.3 = true;")


class Counts(Blocks):
    def test_count(self):
        self.expressions("count", """
            eat() | eat(p) | eat(1, 2, 3) | give(&i) | main() | main(1) | main(1, true, 3) | Pair() | Pair(1)
            | Pair(1, box 2, 3) | Node(1) | Pair(true, true, true) | eat(true) | give(1, 2, 3, 4, 5, 6, 7) """)
        self.holds("do eat(p, 1); | do Pair(1, box 2); | do main(1, true); | print main(main(1, c), y);")

    def test_count_comes_after_the_expressions_and_unknown(self):
        self.expressions("unknown", "eat(zz) | Pair(zz, 1, 2) | eat(1, 2, zz) | zz(1, 2, 3) | Zz(1, 2, 3)")
        self.expressions("move", "eat(b^)")
        self.expressions("kind", "eat((1 + true)) | Pair(not 1)")


class NeededKinds(Blocks):
    def test_arguments_and_fields(self):
        self.expressions("kind", """
            eat(1, 1) | eat(p, true) | eat(p, p) | give(&i, &i) | give(&mut i, &mut k) | give(i, &mut k) | give(&c, &mut k)
            | Pair(1, 2) | Pair(true, box 1) | Pair(1, box true) | Node(none[Node], 1) | main(true, 1) """)
        self.holds("""do give(&i, &mut k); | do eat(Pair(1, box 2), 3); | do Node(some box n, 6); | do Node(n.next, 6);""")

    def test_operations(self):
        for sign in ("+", "-", "*", "<", "=="):
            for sides in ("c {} c", "1 {} c", "c {} 1", "unit {} 1", "1 {} r", "b {} 1", "1 {} (1 < 2)"):
                self.expressions("kind", "(" + sides.format(sign) + ")")
            self.holds(f"do (1 {sign} i); | {'i' if sign in '+-*' else 'c'} = (r^ {sign} (2 * 3));")
        for sign in ("and", "or"):
            for sides in ("1 {} 1", "1 {} c", "c {} 1", "c {} unit", "m {} c", "c {} (1 + 2)"):
                self.expressions("kind", "(" + sides.format(sign) + ")")
            self.holds(f"do (c {sign} y); | c = (c {sign} (1 < 2));")
        self.stops("kind", "print (1 < 2); | print (1 == 2); | print (c and c); | c = (1 - 2); | i = (1 < 2);")

    def test_not_and_unbox(self):
        self.expressions("kind", """
            not 1 | not m | not unit | unbox 1 | unbox m | unbox p | unbox r | unbox q | unbox (b, b) | unbox unbox unbox b """)
        self.holds("do not not c; | do unbox unbox b; | print unbox unbox b; | c = not (1 < 2);")
        self.stops("kind", "print not c; | print unbox b;")

    def test_conditions_and_what_is_printed(self):
        for value in cases("1 | unit | m | b | r | p | (c, c) | &c | (1 + 2)"):
            self.stops("kind", f"if {value} {{ print zz; }} else {{ }} | while {value} {{ print zz; }}")
        for value in cases("c | unit | m | b | r | p | (1, 2) | box 1 | some 1"):
            self.stops("kind", f"print {value};")
        self.holds("print 1; print r^; if c { } else { } while m is some { }")

    def test_what_is_returned(self):
        self.stops("kind", """
            return c; | return unit; | return box 1; | return r; | return some 1; | if c { return 1; } else { return c; } """)
        self.holds("return 1; | return r^; | return 1; return 2; print 3;")
        self.passes("fn main() -> unit { return unit; }", "fn f() -> maybe &int { return none[&int]; }" + MAIN)
        self.fails("f", "kind", "fn f() -> maybe &int { return none[&mut int]; }" + MAIN,
                   "fn f(a: &mut int) -> &int from a { return a; }" + MAIN)

    def test_what_is_stored(self):
        self.stops("kind", """
            i = c; | t.0 = c; | t = (1, c); | p.b = 1; | b^ = 1; | b = box 1; | m? = 1; | m = none[int]; | r = &mut c; | r = &k;
            | r^ = c; | q^ = p; | q^.next = none[Node]; | v.0 = &c; | v.1? = &n; | x = c; | s = &k; """)
        self.holds("""
            i = 2; t.0 = 5; t = (1, c, box 2); p.b = box 1; b^ = box 7; m? = (1, box 1); m = none[(int, box int)];
            | r = &mut i; r^ = 4; q^ = n; | v.0 = &i; v = (&i, none[&Pair]); s = &t; | q^.next? = box n; x = 4; y = c; """)

    def test_what_is_swapped(self):
        self.expressions("kind", """
            swap i with c | swap t.0 with c | swap r^ with unit | swap q^.value with c | swap b^ with 1 | swap m? with m """)
        self.holds("""
            print swap i with 2; | do swap b^ with box 2; | do swap q^.next with none[box Node]; | do swap x with swap i with k;
            | do swap p with Pair(1, box 1); | do swap m? with (5, box 6); """)
        self.stops("kind", "c = swap i with 2; | print swap c with c;")

    def test_is(self):
        self.expressions("kind", """
            i is some | b is some | t is some | m? is some | p is some | q is some | v.0 is some | v.1?^ is some """)
        self.holds("""
            do m is some; | c = n.next is some; | c = q^.next is some; | c = v.1 is some; | do n.next?^.next is some; """)
        self.stops("kind", "print m is some; | i = m is some;")


class WholeKinds(Blocks):
    def test_none(self):
        wrong = cases("""Zz | box Zz | &Zz | box &int | &&int | &mut (int, &int) | &mut box &int
                      | (int, int, int, int, int, int, int)""")
        wrong += ["box " * 5 + "int", "(int, " * 5 + "int" + ")" * 5, of_cells(60), "box " + of_cells(61), "&" + of_cells(61),
                  "maybe " * 40 + "int"]
        for kind in wrong:
            self.expressions("kind", "none[" + kind + "]")
        right = cases("Node | &int | &mut Node | (&int, maybe &int) | (int, int, int, int, int, int)")
        right += ["box " * 4 + "int", of_cells(59), "box " + of_cells(60), "&" + of_cells(60)]
        for kind in right:
            self.holds(f"do none[{kind}]; | let z = none[{kind}]; z = none[{kind}];")

    def test_levels(self):
        six = "let w = " + "box " * 5 + "1; "
        self.holds(six)
        for wrong in ("do box w;", "do some w;", "do &w;", "do &mut w;", "do (1, w);"):
            self.stops("kind", six + wrong)
        for right in ("do &w^;", "do some unbox w;", "do (unbox w, 1);"):
            self.holds(six + right)
        self.holds("do " + "some " * 5 + "unit; | do " + "(1, " * 5 + "1" + ")" * 5 + ";")
        self.stops("kind", "do " + "some " * 6 + "1; | do " + "(1, " * 6 + "1" + ")" * 6 + "; | let z = " + "box " * 40 + "1;")

    def test_sizes(self):
        head = f"record A {{ a: {of_cells(60)} }} fn big() -> {of_cells(60)} {{ }} fn less() -> {of_cells(59)} {{ }} " \
            "fn main() -> int { let w = big(); let l = less(); "
        for right in cases("let z = box w; | let z = &w; | let z = some l; | let z = (1, l); | let z = A(w); | w = big();"
                           "| do swap w with big(); | do some box A(w); | do none[box A];"):
            self.passes(head + right + " }")
        for wrong in cases("do some w; | do (w, 1); | do (1, w); | do some A(w); | do (A(w), unit); | do ((l, 1), 1);"
                           "| do none[A]; | do some some l;"):
            self.fails("main", "kind", head + wrong + " }")

    def test_borrows_where_none_may_stand(self):
        self.expressions("kind", "box &i | box r | box v | box some &i | box (1, s) | box box &mut i | none[box &int]")
        self.holds("do some &i; | do (&i, &mut k); | do some (1, some r);")

    def test_numbers_of_items(self):
        for count in range(9):
            found = None if 2 <= count <= 6 else ("main", "kind")
            for tree, wanted in (
                (("tuple", (ONE,) * count), found), (("none", ("tuple", (INT,) * count)), found),
                (("tuple", (ONE,) * count + (("use", ("zz", ())),)), ("main", "unknown")),
            ):
                self.assertEqual(problem(((), (("main", (), UNIT, (), (("do", tree),)),))), wanted)
        self.expressions("kind", "(1, 2, 3, 4, 5, 6, 7) | (i, c, unit, k, r^, x, y, b)")


class MovesAndBorrows(Blocks):
    def test_move(self):
        self.expressions("move", """
            b^ | s^ | s^.2 | q^ | q^.next | q^.next? | q^.next?^ | n.next?^ | n.next?^.next | v.1?^ | v.1?^.b """)
        self.holds("""
            do b; | do b^^; | do s^.0; | do s^.1; | do r^; | do r; | do q; | do n; | do n.next; | do n.next?; | do p.b^;
            | do q^.value; | do v.1?^.a; | do v; | do v.1; | do m?.1; | do m?; | do t.2; | do t.2^; | do s;
            | do n.next?^.value; """)

    def test_borrows_and_swaps_of_what_is_not_plain(self):
        self.expressions("borrow", """
            &r | &mut r | &s | &mut s | &v | &v.0 | &v.1 | &mut v.1? | &q | swap r with r | swap r with &mut i | swap v with v
            | swap v.1 with none[&Pair] | swap s with 1 """)
        self.holds("""
            do &r^; | do &mut r^; | do &s^; | do &s^.1; | do &s^.2^; | do &q^; | do &mut q^.next?^; | do &v.0^; | do &v.1?^.b;
            | do &mut p.b^; | do &mut b^^; """)

    def test_changes_through_a_shared_borrow(self):
        self.expressions("borrow", """
            &mut s^ | &mut s^.0 | &mut s^.2^ | &mut v.0^ | &mut v.1?^.a | &mut v.1?^.b^ | swap s^ with t | swap s^.0 with 1
            | swap s^.2^ with 1 | swap v.1?^.a with 2 """)
        self.stops("borrow", """
            s^ = t; | s^.0 = 1; | s^.2 = box 1; | s^.2^ = 1; | v.0^ = 1; | v.1?^.a = 2; | v.1?^.b^ = 2; """)
        self.holds("""
            r^ = 1; | q^.value = 2; | q^.next?^.value = 1; | do swap r^ with 1; | do &mut q^.value; | do &s^; | s = &t;
            | v.0 = &i; | v.1? = &p; | v.1 = none[&Pair]; """)

    def test_borrow_comes_before_kind(self):
        self.expressions("borrow", "swap s^.0 with c | swap s with 1 | swap s^.1 with 1")
        self.stops("borrow", "s^.0 = c; | s^ = 1; | v.0^ = unit;")
        six = "let w = " + "box " * 5 + "1; let u = (1, &w^^); "
        self.stops("borrow", six + "do &u;")

    def test_the_expression_comes_before_the_place(self):
        self.expressions("unknown", "swap s^.0 with zz | swap i.0 with zz")
        self.expressions("step", "swap zz with i.0 | swap s with t.3")
        self.stops("unknown", "i.0 = zz; | s^.0 = zz; | i = (c, zz);")
        self.stops("kind", "zz = (1 + c); | i.0 = not 1; | s^.0 = not 1;")
        self.stops("borrow", "zz = &mut s^; | i.0 = &r;")
        self.stops("move", "zz = b^; | i = b^;")
        self.stops("count", "zz = eat(); | s^.0 = Pair(1);")


class Orders(Blocks):
    def test_the_first_statement_counts(self):
        slips = {"declared": "let i = 1;", "unknown": "print zz;", "step": "do t.3;", "count": "do eat();",
                 "kind": "print c;", "move": "do b^;", "borrow": "do &r;"}
        for reason, first in slips.items():
            for other in slips.values():
                self.stops(reason, f"""
                    {first} {other} | if c {{ {first} }} else {{ {other} }} | while c {{ {first} }} {other}
                    | if c {{ print 1; }} else {{ {first} }} {other}
                    | while c {{ if c {{ while c {{ {first} }} }} else {{ }} }} {other} """)
            self.fails("f", reason, self.body(first).replace("fn main", "fn f") + " fn main() -> unit { print zz; }")

    def test_the_left_expression_counts(self):
        slips = {"unknown": "zz", "step": "t.3", "count": "eat()", "kind": "not 1", "move": "b^", "borrow": "&r"}
        for reason, first in slips.items():
            for other in slips.values():
                for row in ("({} + {})", "({}, {})", "eat({}, {})", "Pair(1, {}, {})", "(1, ({}, 2), {})", "zz({}, {})"):
                    self.stops(reason, "do " + row.format(first, other) + "; | x = " + row.format(first, other) + ";")

    def test_the_first_function_counts(self):
        self.fails("f", "kind", "fn f() -> int { print true; } fn main() -> int { print zz; }")
        self.fails("main", "unknown", "fn main() -> int { print zz; } fn f() -> int { print true; }")
        self.fails("f", "kind", "fn g() -> int { return f(); } fn f() -> int { return unit; }" + MAIN)

    def test_functions_and_records_are_known_before_they_are_declared(self):
        self.passes("record A { a: int } fn main() -> int { return f(A(1)); } fn f(a: A) -> int { return a.a; }",
                    "record B { a: A } record A { a: int } fn main() -> int { let b = B(A(1)); return b.a.a; }")

    def test_depths(self):
        self.holds("if c { } else { " * 45 + "print i;" + " }" * 45)
        self.holds("print " + "(1 + " * 45 + "i" + ")" * 45 + ";")
        self.stops("unknown", "print " + "(" * 45 + "zz" + " + c)" * 45 + ";")
        deep = "none[" + "(int, " * 40 + "int" + ")" * 40 + "]"
        self.stops("kind", "if c { } else { " * 40 + "do " + "(" * 40 + deep + ", 1)" * 40 + ";" + " }" * 40)
