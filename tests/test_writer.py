import random
import unittest

from lendback.parser import parse_program
from lendback.writer import write_program
from tests.grammar import RESERVED
from tests.layout_of_texts import laid_out
from tests.trees import Maker, loose, program_tokens, tight

INT, BOOL, UNIT = ("int",), ("bool",), ("unit",)
X = ("use", ("x", ()))
EXPRESSIONS = (
    "0", "7", "-5", "-2147483648", "2147483647", "true", "false", "unit", "none[int]", "none[(int, bool)]",
    "none[&mut (int, unit)]", "some x", "box x", "unbox x", "not x", "some (x, 1)", "not (x and y)", "box -5",
    "&x", "&mut x", "&x.0", "&mut x^.a?", "swap x with 1", "swap x? with (1, 2)", "swap x.0^ with -1",
    "x", "x.0.1.22", "x.a.b_c", "x?^.f^^", "x is some", "x.0? is some", "Pair()", "Pair(1)", "Pair(-1, (x, y))",
    "f()", "f(x)", "f(&x, &mut y, -3)", "f(g(h()), P(Q(1)))", "(x, y)", "(1, 2, 3, 4, 5, 6)", "((1, 2), (3, 4))",
    "(x + y)", "(x - -1)", "(-1 - x)", "(x * y)", "(x < y)", "(x == y)", "(x and y)", "(x or y)",
    "((x + 1) * (y - 2))", "(x is some and not y is some)", "(f(1) + f(2))", "(none[int], some none[box A])",
    "some box unbox not x", "unbox swap x with box 1", "(&x, &mut y)", "some &x", "f((1, 2))", "P((1 + 2), &x)",
)
KINDS = (
    "int", "bool", "unit", "Pair", "box int", "maybe bool", "&int", "&mut int", "&Pair", "&mut Pair", "(int, bool)",
    "&(int, bool)", "&mut (int, bool)", "box (int, unit)", "maybe &mut box maybe int", "((int, A), (A, (int, int)))",
    "&&int", "&&mut &int", "&mut &mut int", "(&int, &mut int)", "(int, int, int, int, int, int)",
)


def program_of(block, name="f", parameters=(), result=UNIT, sources=()):
    return ((), ((name, parameters, result, sources, tuple(block)),))


def nested(count, wrap, inner):
    for _ in range(count):
        inner = wrap(inner)
    return inner


class WideMaker(Maker):
    """Random trees up to the limits of sections 10 to 12 and a bit beyond."""

    def place(self):
        step = lambda: self.one((0, 1, 5, "?", "^", "f", "q" * 20))
        return (self.name(), self.some(step, 0, 13))

    def record(self):
        return (self.record_name(), self.some(self.field, 1, 6))

    def function(self):
        sources = self.some(self.name, 0, 6)
        return (self.name(), self.some(self.field, 0, 6), self.kind(8), sources, self.block(self.one((0, 1, 2, 3))))


class Writing(unittest.TestCase):
    def same(self, program, text):
        """The program has this text, and the text has this tree."""
        self.assertEqual(write_program(program), text)
        # repr tells True from 1 and False from 0, which are equal.
        self.assertEqual(repr(parse_program(text)), repr(program))

    def round_trip(self, program, seed=0):
        """What is written, read and written again stays the same, whatever the blanks were."""
        text = write_program(program)
        self.assertEqual(repr(parse_program(text)), repr(program))
        tokens = program_tokens(program)
        self.assertEqual(text, laid_out(tokens))
        for other in (tight(tokens), loose(tokens, seed), " ".join(tokens)):
            self.assertEqual(write_program(parse_program(other)), text)
        return text


class Declarations(Writing):
    def test_the_empty_program(self):
        self.same(((), ()), "")

    def test_records(self):
        self.same(((
            ("A", (("a", INT),)),
            ("Pair", (("a", INT), ("b", ("box", ("record", "A"))), ("c_3", ("tuple", (INT, BOOL))))),
        ), ()), "record A { a: int }\nrecord Pair { a: int, b: box A, c_3: (int, bool) }\n")

    def test_functions(self):
        self.same(program_of(()), "fn f() -> unit {\n}\n")
        shared, exclusive = ("shared", INT), ("exclusive", INT)
        self.same(((), (
            ("name", (("a", shared), ("b", exclusive)), shared, ("a", "b"), (("return", ("use", ("a", ()))),)),
            ("g", (("x", BOOL),), ("tuple", (INT, UNIT)), (), ()),
        )), "fn name(a: &int, b: &mut int) -> &int from a, b {\n    return a;\n}\n"
            "fn g(x: bool) -> (int, unit) {\n}\n")

    def test_from_none_to_six_parameters_and_sources(self):
        for count in range(7):
            parameters = tuple([(f"p{at}", ("shared", INT)) for at in range(count)])
            names = tuple([name for name, _ in parameters])
            listed = ", ".join(f"{name}: &int" for name in names)
            for sources in (names, names[:1], ()):
                origin = " from " + ", ".join(sources) if sources else ""
                self.same(program_of((), parameters=parameters, sources=sources),
                          f"fn f({listed}) -> unit{origin} {{\n}}\n")

    def test_from_one_to_six_fields(self):
        for count in range(1, 7):
            fields = tuple([(f"f{at}", UNIT) for at in range(count)])
            self.same(((("R", fields),), ()),
                      "record R { " + ", ".join(f"f{at}: unit" for at in range(count)) + " }\n")

    def test_names_of_every_length(self):
        for length in range(1, 21):
            small, large = "q" * length, "R" * length
            text = f"record {large} {{ {small}: {large} }}\nfn {small}({small}: {large}) -> {large} from {small} {{\n" \
                f"    let {small} = {small}({large}({small}.{small}), &{small});\n}}\n"
            self.assertEqual(write_program(parse_program(text)), text)

    def test_kinds(self):
        for kind in KINDS:
            text = f"record A {{ a: {kind} }}\nfn f(a: {kind}) -> {kind} {{\n    do none[{kind}];\n}}\n"
            self.assertEqual(write_program(parse_program(text)), text)
            self.assertEqual(write_program(parse_program(text.replace("&", " & ").replace(",", " ,\n"))), text)

    def test_results_of_many_levels(self):
        for count in (5, 8, 9, 40, 45):
            for start, shape in (("box ", "box"), ("maybe ", "maybe"), ("&", "shared"), ("&mut ", "exclusive")):
                kind = nested(count, lambda part: (shape, part), INT)
                self.same(program_of((), result=kind), "fn f() -> " + start * count + "int {\n}\n")
            kind = nested(count, lambda part: ("tuple", (part, UNIT)), INT)
            self.same(program_of((), result=kind), "fn f() -> " + "(" * count + "int" + ", unit)" * count + " {\n}\n")


class Statements(Writing):
    def test_every_statement(self):
        self.same(program_of((
            ("let", "y", X), ("store", ("x", ()), X), ("store", ("r", ("^", 0, "?", "g")), ("int", -5)), ("do", X),
            ("print", X), ("return", X), ("if", X, (("print", X),), (("do", X), ("do", X))),
            ("while", X, (("print", X),)),
        )),
        "fn f() -> unit {\n    let y = x;\n    x = x;\n    r^.0?.g = -5;\n    do x;\n    print x;\n    return x;\n"
            "    if x {\n        print x;\n    } else {\n        do x;\n        do x;\n    }\n"
            "    while x {\n        print x;\n    }\n}\n")

    def test_empty_blocks(self):
        self.same(program_of((("if", X, (), ()), ("while", X, ()))),
                  "fn f() -> unit {\n    if x {\n    } else {\n    }\n    while x {\n    }\n}\n")

    def test_blocks_in_blocks(self):
        for count in (1, 11, 12, 40, 45):
            rows = ["    " * depth + "while x {" for depth in range(1, count + 1)]
            rows += ["    " * (count + 1) + "print x;"] + ["    " * depth + "}" for depth in range(count, 0, -1)]
            block = nested(count, lambda part: (("while", X, part),), (("print", X),))
            self.same(program_of(block), "fn f() -> unit {\n" + "\n".join(rows) + "\n}\n")
            for wrap in (lambda part: (("if", X, part, ()), ("do", X)), lambda part: (("if", X, (), part),)):
                self.round_trip(program_of(nested(count, wrap, (("print", X),))))


class Expressions(Writing):
    def test_every_expression(self):
        for written in EXPRESSIONS:
            text = f"fn f() -> unit {{\n    do {written};\n    let y = {written};\n    x = {written};\n" \
                f"    if {written} {{\n    }} else {{\n    }}\n    while {written} {{\n    }}\n    return {written};\n}}\n"
            self.assertEqual(write_program(parse_program(text)), text)

    def test_zero_has_no_sign(self):
        for zero in ("0", "-0", "- 0", "-\n0"):
            self.assertEqual(write_program(parse_program(f"fn f() -> unit {{ print {zero}; }}")),
                             "fn f() -> unit {\n    print 0;\n}\n")

    def test_nesting(self):
        wraps = (
            ("some ", "", lambda tree: ("some", tree)), ("unbox ", "", lambda tree: ("unbox", tree)),
            ("not ", "", lambda tree: ("not", tree)), ("box ", "", lambda tree: ("box", tree)),
            ("swap x with ", "", lambda tree: ("swap", ("x", ()), tree)),
            ("(", " + x)", lambda tree: ("op", "+", tree, X)), ("(x < ", ")", lambda tree: ("op", "<", X, tree)),
            ("(", ", x)", lambda tree: ("tuple", (tree, X))), ("(x, ", ")", lambda tree: ("tuple", (X, tree))),
            ("A(", ")", lambda tree: ("record", "A", (tree,))), ("f(x, ", ")", lambda tree: ("call", "f", (X, tree))),
        )
        for count in (1, 23, 24, 40, 45):
            for start, end, wrap in wraps:
                tree = nested(count, wrap, X)
                self.same(program_of((("do", tree),)),
                          f"fn f() -> unit {{\n    do {start * count}x{end * count};\n}}\n")

    def test_places_of_every_length(self):
        steps = (0, "f", "?", "^", 12, "g_1", "^", "?", 1, "h", 5, "^", "?")
        texts = (".0", ".f", "?", "^", ".12", ".g_1", "^", "?", ".1", ".h", ".5", "^", "?")
        for count in range(14):
            place = ("x", steps[:count])
            text = "x" + "".join(texts[:count])
            self.same(program_of((
                ("store", place, ("use", place)), ("do", ("is", place)), ("do", ("swap", place, X)),
                ("do", ("borrow", "shared", place)), ("do", ("borrow", "exclusive", place)),
            )), f"fn f() -> unit {{\n    {text} = {text};\n    do {text} is some;\n    do swap {text} with x;\n"
                f"    do &{text};\n    do &mut {text};\n}}\n")

    def test_nesting_of_all_three(self):
        kind = nested(40, lambda part: ("tuple", (INT, part)), INT)
        inner = nested(40, lambda part: ("call", "f", (part,)), ("none", kind))
        self.round_trip(program_of(nested(40, lambda part: (("if", X, (), part),), (("do", inner),))))


class RandomPrograms(Writing):
    def test_they_are_written_read_and_written_again(self):
        seen = set()
        for seed in range(150):
            for maker in (Maker(seed), WideMaker(seed)):
                program = maker.program()
                text = self.round_trip(program, seed)
                seen.update(program_tokens(program))
                self.assertTrue(text.endswith("\n") or text == "")
                for line in text.splitlines():
                    self.assertRegex(line, r"\A( {4})*[^ ]+( [^ ]+)*\Z")
        self.assertEqual(set(RESERVED) - seen, set())

    def test_every_declaration_begins_a_line(self):
        for seed in range(50):
            program = WideMaker(seed).program()
            starts = [line.split("(")[0].split(" {")[0] for line in write_program(program).splitlines() if line[0] in "rf"]
            names = ["record " + record[0] for record in program[0]] + ["fn " + function[0] for function in program[1]]
            self.assertEqual(starts, names)

    def test_the_tree_stays_as_it_was(self):
        for seed in random.Random(5).sample(range(1000), 20):
            program, other = WideMaker(seed).program(), WideMaker(seed).program()
            first = write_program(program)
            self.assertEqual(program, other)
            self.assertEqual(write_program(program), first)
