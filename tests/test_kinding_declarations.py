from lendback.kinding import check_kinds
from lendback.parser import parse_program
from tests.kind_problems import INT, MAIN, UNIT, Kinding, cases, of_cells, problem

MAIN_TREE = parse_program(MAIN)[1]
NARROW = (("tuple", ()), ("tuple", (INT,)), ("maybe", ("tuple", (INT,))), ("tuple", (INT, ("tuple", (INT,)))))


def declared(*texts):
    """The text of a program with these records."""
    return " ".join("record " + text for text in texts) + MAIN


class Records(Kinding):
    def test_records_that_pass(self):
        self.passes(
            declared("A { a: int }"), declared("A { a: box A }"), declared("A { a: maybe box A }"),
            declared("A { a: unit, b: bool, c: A2, d: int, e: int, f: box A }", "A2 { a: int }"),
            declared("A { a: (int, box B) }", "B { b: box A }"),
            declared("C { c: B }", "A { a: int }", "B { b: (A, maybe A) }"),
        )

    def test_it_returns_none(self):
        self.assertIsNone(check_kinds(parse_program(declared("A { a: int }"))))

    def test_a_name_that_was_used(self):
        self.fails("A", "record", declared("A { a: int }", "A { a: int }"),
                   declared("B { a: int }", "A { a: B }", "C { a: int }", "A { a: int }"))

    def test_numbers_of_fields(self):
        for count in range(9):
            fields = tuple([(f"f{at}", INT) for at in range(count)])
            self.assertEqual(problem(((("A", fields),), MAIN_TREE)), None if 1 <= count <= 6 else ("A", "record"))

    def test_names_of_fields(self):
        self.fails("A", "record", declared("A { a: int, a: int }"), declared("A { a: int, b: int, c: bool, b: int }"))
        self.passes(declared("A { a: int, b: int }", "B { a: int, b: int }"))

    def test_kinds_of_fields(self):
        for kind in cases("B | box B | &int | maybe &int | box &int | (int, &mut int) | maybe (int, maybe &A) | &&int"
                          "| (int, int, int, int, int, int, int) | maybe (int, B) | box (A, (int, B))"):
            self.fails("A", "record", declared("A { a: int, b: " + kind + " }"), declared("A { a: " + kind + ", b: int }"))
        for kind in NARROW:
            self.assertEqual(problem(((("A", (("a", kind),)),), MAIN_TREE)), ("A", "record"))

    def test_levels_of_fields(self):
        for start, end in (("box ", ""), ("maybe ", ""), ("(int, ", ")")):
            for inner in ("int", "B"):
                six = start * 5 + inner + end * 5
                self.passes(declared("A { a: " + six + " }", "B { b: int }"))
                for deep in (start + six + end, start * 34 + six + end * 34):
                    self.fails("A", "record", declared("A { a: " + deep + " }", "B { b: int }"))


class SizesOfRecords(Kinding):
    def test_at_most_sixty(self):
        self.passes(
            declared("A { a: " + of_cells(60) + " }"), declared("A { a: " + of_cells(30) + ", b: " + of_cells(30) + " }"),
            declared("A { a: maybe " + of_cells(59) + " }"), declared("A { a: " + of_cells(60, "box int") + " }"),
            declared("A { a: box " + of_cells(60) + ", b: " + of_cells(59) + " }"),
            declared("B { b: A, c: A }", "A { a: " + of_cells(30) + " }"),
            declared("B { b: box A }", "A { a: " + of_cells(60) + " }"),
            declared("A { a: " + of_cells(15, "maybe maybe (int, int)") + " }"),
        )

    def test_more_than_sixty(self):
        half = "B { b: " + of_cells(30) + " }"
        self.fails(
            "A", "record", declared("A { a: " + of_cells(61) + " }"), declared("A { a: maybe " + of_cells(60) + " }"),
            declared("A { a: " + of_cells(30) + ", b: " + of_cells(31) + " }"),
            declared("A { a: int, b: box " + of_cells(61) + " }"),
            declared("A { a: maybe box maybe " + of_cells(60) + " }"),
            declared("A { a: (int, box (bool, box " + of_cells(61) + ")) }"),
            declared(half, "A { a: B, b: (B, int) }"), declared("A { a: B, b: (B, int) }", half),
            declared(half, "A { a: box (B, B, int) }"),
        )

    def test_records_that_contain_themselves(self):
        for kind in cases("A | maybe A | (int, A) | (box A, maybe (A, int)) | maybe maybe (int, int, A)"):
            self.fails("A", "record", declared("A { a: " + kind + " }"),
                       declared("D { d: box D }", "A { a: int, b: " + kind + " }", "B { b: A }"))

    def test_records_that_contain_each_other(self):
        rows = ["A { a: B }", "B { b: maybe C }", "C { c: (int, A) }", "D { d: maybe C }", "E { e: box D }", "F { f: box F }"]
        for turn in range(6):
            for turned in (rows[turn:] + rows[:turn], rows[turn::-1] + rows[:turn:-1]):
                # All but F are such records, or contain one, if only in a box: the first one counts.
                first = [row[0] for row in turned if row[0] != "F"][0]
                self.fails(first, "record", declared(*turned))

    def test_what_has_no_size_stands_inside_a_box(self):
        large = "B { b: " + of_cells(60) + ", c: int }"
        self.fails("A", "record", declared("A { a: box B }", "B { b: B }"), declared("A { a: box B }", large),
                   declared("A { a: maybe box (int, B) }", "B { b: maybe C }", "C { c: B }"))
        self.fails("B", "record", declared("B { b: B }", "A { a: box B }"), declared(large, "A { a: box B }"))

    def test_a_kind_in_another_record_is_asked_of_that_record(self):
        self.fails("B", "record", declared("A { a: B }", "B { b: box C }", "C { c: C }"),
                   declared("A { a: box B }", "B { b: box " + of_cells(61) + " }"))

    def test_the_first_round_comes_before_the_second_one(self):
        for first in ("A { a: A }", "A { a: box " + of_cells(61) + " }"):
            for second in cases("B { b: C } | B { b: &int } | B { b: int, b: int } | A { b: int }"):
                self.fails(second[0], "record", declared(first, second))
            self.fails("A", "record", declared(first, "B { b: int }"), declared("B { b: int }", first))

    def test_sizes_that_double_from_record_to_record(self):
        rows = [f"R{at + 1} {{ a: R{at}, b: R{at} }}" for at in range(40)]
        self.fails("R6", "record", declared("R0 { a: int }", *rows))
        self.fails("R40", "record", declared(*reversed(rows), "R0 { a: int }"))

    def test_long_rows_of_records(self):
        rows = [f"R{at} {{ a: R{at + 1} }}" for at in range(300)]
        for listed in (rows, rows[::-1]):
            self.passes(declared(*listed, "R300 { a: int }"))
            self.fails(listed[0].split()[0], "record", declared(*listed, "R300 { a: R0 }"))

    def test_records_come_before_signatures(self):
        self.fails("A", "record", "record A { a: A } fn f(a: A, a: A) -> Zz { }", "record A { a: Zz }")


class Signatures(Kinding):
    def test_signatures_that_pass(self):
        self.passes(*[text + MAIN for text in cases("""
            fn f(a: &int, b: maybe &mut int, c: (int, &bool), d: box int, e: unit, f: bool) -> &int from c, b, a { }
            | fn f(a: int) -> &int { } | fn f(f: &int) -> int from f { } | fn f() -> (&int, maybe &mut int) { }
            | record A { a: int } fn f(a: &A, b: &mut box A) -> maybe &A from b { } """)])

    def test_names(self):
        self.fails("f", "signature", *cases("""
            fn f() -> int { } fn f() -> int { } fn main() -> unit { }
            | fn f() -> int { } fn g() -> int { } fn f() -> unit { } """))
        self.fails("main", "signature", MAIN + MAIN)

    def test_parameters(self):
        for count in range(9):
            parameters = ", ".join(f"p{at}: int" for at in range(count))
            found = problem(f"fn f({parameters}) -> unit {{ }}" + MAIN)
            self.assertEqual(found, None if count <= 6 else ("f", "signature"))
        self.fails("f", "signature", "fn f(a: int, a: int) -> unit { }" + MAIN,
                   "fn f(a: int, b: &int, a: bool) -> unit from b { }" + MAIN)

    def kinds(self, found, kinds):
        for kind in kinds:
            for head in (f"(a: {kind}) -> int", f"(a: int, b: bool, c: {kind}) -> int", f"() -> {kind}"):
                self.assertEqual(problem("record B { b: int, c: int } fn f" + head + " { }" + MAIN), found, kind)

    def test_kinds_that_pass(self):
        self.kinds(None, cases("B | box B | &B | &mut box int | maybe &int | (&int, (&mut int, maybe &B))"
                               "| (int, int, int, int, int, int)"))
        self.kinds(None, ["box " * 5 + "int", "maybe " * 5 + "B", "&" + "box " * 4 + "int", "(int, " * 5 + "int" + ")" * 5])
        self.kinds(None, [of_cells(60), "&" + of_cells(60), "maybe " + of_cells(59), "box " + of_cells(60),
                          "&mut box " + of_cells(60), "(B, " + of_cells(58) + ")"])

    def test_kinds_that_do_not_pass(self):
        wrong = ("f", "signature")
        self.kinds(wrong, cases("A | box A | &A | maybe (int, A) | box &int | box maybe &mut int | &&int | & mut & int"
                                "| &(int, &int) | maybe box (int, &int) | (int, int, int, int, int, int, int)"
                                "| &(int, int, int, int, int, int, int)"))
        self.kinds(wrong, ["box " * 6 + "int", "maybe " * 6 + "B", "&" + "box " * 5 + "int", "(int, " * 6 + "int" + ")" * 6,
                           "maybe " * 40 + "int"])
        self.kinds(wrong, [of_cells(61), "&" + of_cells(61), "maybe " + of_cells(60), "box " + of_cells(61),
                           "&mut box " + of_cells(61), "(B, " + of_cells(60) + ")"])
        for kind in NARROW:
            for function in (("f", (), kind, (), ()), ("f", (("a", ("shared", kind)),), UNIT, (), ())):
                self.assertEqual(problem(((), (function,) + MAIN_TREE)), wrong)

    def test_sources(self):
        head = "fn f(a: &int, b: int, c: (bool, maybe &mut int), d: box int) -> &int from "
        self.passes(*[head + names + " { }" + MAIN for names in cases("a | c | a, c | c, a")])
        for names in cases("b | d | e | f | a, a | a, c, a | a, b | z, a"):
            self.fails("f", "signature", head + names + " { }" + MAIN)
        self.fails("main", "signature", "fn main(a: int) -> int from a { }", "fn main() -> int from a { }")

    def test_the_first_function_counts(self):
        self.fails("f", "signature", "fn f() -> A { } fn g() -> A { }", "fn f(a: int, a: int) -> int { } fn f() -> int { }")
        self.fails("g", "signature", "fn f() -> int { print zz; } fn g() -> A { }" + MAIN,
                   "fn f() -> int { } fn g(a: A) -> int { }")


class Main(Kinding):
    def test_there_is_none(self):
        self.fails("main", "main", "", "record A { a: int }", "fn f() -> unit { }", "fn mains() -> unit { }")

    def test_its_parameters(self):
        for kinds in ((), ("int",), ("bool",), ("bool", "int", "bool"), ("int",) * 6):
            listed = ", ".join(f"p{at}: {kind}" for at, kind in enumerate(kinds))
            self.passes("fn main(" + listed + ") -> int { }")
        for kind in cases("unit | box int | &int | maybe int | (int, int) | A"):
            self.fails("main", "main", "record A { a: int } fn main(a: " + kind + ") -> int { }",
                       "record A { a: int } fn main(a: int, b: " + kind + ", c: int) -> int { print zz; }")

    def test_its_result(self):
        for kind in cases("unit | int | bool | box int | maybe A | (A, box A) | A"):
            self.passes("record A { a: int } fn main() -> " + kind + " { }")
        for kind in cases("&int | &mut int | maybe &A | (int, (bool, &int))"):
            self.fails("main", "main", "record A { a: int } fn main() -> " + kind + " { }")

    def test_it_comes_behind_all_signatures_and_before_all_blocks(self):
        self.fails("f", "signature", "fn main(a: unit) -> int { } fn f() -> A { }", "fn f() -> A { }")
        self.fails("main", "main", "fn f() -> int { print zz; }", "fn f() -> int { print zz; } fn main() -> &int { }")
        self.fails("f", "unknown", "fn f() -> int { print zz; }" + MAIN, MAIN + " fn f() -> int { print zz; }")
