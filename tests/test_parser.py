import unittest

from lendback.parser import parse_program
from tests.grammar import RESERVED
from tests.trees import Maker, loose, program_tokens, tight

INT, BOOL, UNIT = ("int",), ("bool",), ("unit",)
X = ("use", ("x", ()))


def block_of(text):
    return parse_program("fn main() -> unit {" + text + "}")[1][0][4]


def expression_of(text):
    return block_of("do " + text + ";")[0][1]


def kind_of(text):
    return parse_program("fn main() -> " + text + " { }")[1][0][2]


def nested(count, wrap, inner):
    for _ in range(count):
        inner = wrap(inner)
    return inner


class Parsing(unittest.TestCase):
    def same(self, found, tree):
        # repr tells True from 1 and False from 0, which are equal.
        self.assertEqual(repr(found), repr(tree))


class Declarations(Parsing):
    def test_the_empty_program(self):
        for text in ("", " ", "\n", "  \n\n  \n"):
            self.same(parse_program(text), ((), ()))

    def test_records(self):
        self.same(parse_program("record A { a: int } record Pair2b { a: A, b_2: box int, c: (int, bool) }"), ((
            ("A", (("a", INT),)),
            ("Pair2b", (("a", ("record", "A")), ("b_2", ("box", INT)), ("c", ("tuple", (INT, BOOL))))),
        ), ()))

    def test_functions(self):
        self.same(parse_program("fn f() -> unit { }"), ((), (("f", (), UNIT, (), ()),)))
        text = "fn g(a: &int, b: &mut A) -> maybe &int from a, b, zz { return a; } fn f(x: bool) -> int from x { }"
        self.same(parse_program(text), ((), (
            ("g", (("a", ("shared", INT)), ("b", ("exclusive", ("record", "A")))), ("maybe", ("shared", INT)),
             ("a", "b", "zz"), (("return", ("use", ("a", ()))),)),
            ("f", (("x", BOOL),), INT, ("x",), ()),
        )))

    def test_more_than_the_limits_is_no_error_of_the_text(self):
        fields = ", ".join(["f: int"] * 9)
        tree = parse_program("record A { " + fields + " } record A { a: A } fn f(" + fields + ") -> B from z, z { }")
        self.assertEqual([len(tree[0][0][1]), len(tree[1][0][1]), tree[1][0][3]], [9, 9, ("z", "z")])

    def test_names(self):
        for name in ("a", "z9", "a_", "x__y", "lets", "iff", "a" * 20, "records", "nott", "mut2", "true_", "fn0"):
            self.same(expression_of(name), ("use", (name, ())))
            self.same(block_of("let " + name + " = x;"), (("let", name, X),))
        for name in ("A", "Z9", "AbC", "Int", "R" * 20, "Record"):
            self.same(kind_of(name), ("record", name))
            self.same(expression_of(name + "(x)"), ("record", name, (X,)))


class Kinds(Parsing):
    def test_every_kind(self):
        cases = (
            ("int", INT), ("bool", BOOL), ("unit", UNIT), ("Pair", ("record", "Pair")), ("box int", ("box", INT)),
            ("maybe bool", ("maybe", BOOL)), ("&int", ("shared", INT)), ("&mut int", ("exclusive", INT)),
            ("& mut Pair", ("exclusive", ("record", "Pair"))), ("(int, bool)", ("tuple", (INT, BOOL))),
            ("(int, bool, unit, int, int, int, int, int)", ("tuple", (INT, BOOL, UNIT, INT, INT, INT, INT, INT))),
            ("maybe box &mut maybe &int", ("maybe", ("box", ("exclusive", ("maybe", ("shared", INT)))))),
            ("((int, A), &(bool, unit))", ("tuple", (
                ("tuple", (INT, ("record", "A"))), ("shared", ("tuple", (BOOL, UNIT)))))),
        )
        for text, kind in cases:
            self.same(kind_of(text), kind)
            self.same(expression_of("none[" + text + "]"), ("none", kind))

    def test_nesting(self):
        for count in (1, 40, 45):
            for start, shape in (("box ", "box"), ("maybe ", "maybe"), ("&", "shared"), ("&mut ", "exclusive")):
                self.same(kind_of(start * count + "int"), nested(count, lambda kind: (shape, kind), INT))
            self.same(kind_of("(bool, " * count + "int" + ")" * count),
                      nested(count, lambda kind: ("tuple", (BOOL, kind)), INT))
            self.same(kind_of("(" * count + "int" + ", bool)" * count),
                      nested(count, lambda kind: ("tuple", (kind, BOOL)), INT))


class Statements(Parsing):
    def test_every_statement(self):
        cases = (
            ("let a = x;", ("let", "a", X)), ("do x;", ("do", X)), ("print x;", ("print", X)),
            ("return x;", ("return", X)), ("x = x;", ("store", ("x", ()), X)),
            ("x.0.f?^ = 5;", ("store", ("x", (0, "f", "?", "^")), ("int", 5))),
            ("if x { } else { }", ("if", X, (), ())),
            ("if x { print x; return x; } else { do x; }",
             ("if", X, (("print", X), ("return", X)), (("do", X),))),
            ("while x { }", ("while", X, ())),
            ("while x { x = x; let y = x; }", ("while", X, (("store", ("x", ()), X), ("let", "y", X)))),
        )
        for text, tree in cases:
            self.same(block_of(text), (tree,))
        self.same(block_of(" ".join([text for text, _ in cases])), tuple([tree for _, tree in cases]))

    def test_nesting(self):
        for count in (1, 40, 45):
            self.same(block_of("while x { " * count + "print x;" + " }" * count),
                      nested(count, lambda tree: (("while", X, tree),), (("print", X),)))
            self.same(block_of("if x { " * count + " } else { print x; }" * count),
                      nested(count, lambda tree: (("if", X, tree, (("print", X),)),), ()))
            self.same(block_of("if x { } else { " * count + " }" * count),
                      nested(count, lambda tree: (("if", X, (), tree),), ()))


class Expressions(Parsing):
    def test_every_expression(self):
        cases = (
            ("true", ("bool", True)), ("false", ("bool", False)), ("unit", ("unit",)), ("none[int]", ("none", INT)),
            ("some x", ("some", X)), ("box x", ("box", X)), ("unbox x", ("unbox", X)), ("not x", ("not", X)),
            ("&x", ("borrow", "shared", ("x", ()))), ("&mut x.a", ("borrow", "exclusive", ("x", ("a",)))),
            ("swap x? with x", ("swap", ("x", ("?",)), X)), ("A()", ("record", "A", ())), ("A(x)", ("record", "A", (X,))),
            ("A(x, 1, x)", ("record", "A", (X, ("int", 1), X))), ("f()", ("call", "f", ())), ("f(x)", ("call", "f", (X,))),
            ("f(x, g(x))", ("call", "f", (X, ("call", "g", (X,))))), ("x", X), ("x is some", ("is", ("x", ()))),
            ("x.3^ is some", ("is", ("x", (3, "^")))), ("(x, 1)", ("tuple", (X, ("int", 1)))),
            ("(x, x, x, x, x, x, x, x)", ("tuple", (X,) * 8)),
        )
        for text, tree in cases:
            self.same(expression_of(text), tree)

    def test_every_operation(self):
        for sign in ("+", "-", "*", "<", "==", "and", "or"):
            self.same(expression_of("(x " + sign + " 5)"), ("op", sign, X, ("int", 5)))
            self.same(expression_of("((x " + sign + " x) " + sign + " -5)"),
                      ("op", sign, ("op", sign, X, X), ("int", -5)))
        self.same(expression_of("(1-2)"), ("op", "-", ("int", 1), ("int", 2)))
        self.same(expression_of("(1--2)"), ("op", "-", ("int", 1), ("int", -2)))
        self.same(expression_of("(1and(2or 3))"), ("op", "and", ("int", 1), ("op", "or", ("int", 2), ("int", 3))))

    def test_what_a_word_in_front_takes(self):
        self.same(expression_of("some x is some"), ("some", ("is", ("x", ()))))
        self.same(expression_of("not x is some"), ("not", ("is", ("x", ()))))
        self.same(expression_of("swap x with y is some"), ("swap", ("x", ()), ("is", ("y", ()))))
        self.same(expression_of("(not x and x)"), ("op", "and", ("not", X), X))
        self.same(expression_of("unbox box some -1"), ("unbox", ("box", ("some", ("int", -1)))))
        self.same(expression_of("some swap x with some x"), ("some", ("swap", ("x", ()), ("some", X))))

    def test_places(self):
        steps = (0, "f", "?", "^", 12, "g_1", "^", "?", 1000000000, "h", 9999999999, "^")
        for text in ("x.0.f?^.12.g_1^?.1000000000.h.9999999999^",
                     "x . 0 . f ? ^\n. 12 . g_1 ^ ? .  1000000000 . h . 9999999999 ^"):
            self.same(expression_of(text), ("use", ("x", steps)))
        self.same(expression_of("x" + "^" * 15), ("use", ("x", ("^",) * 15)))
        self.same(expression_of("x.0.1.2"), ("use", ("x", (0, 1, 2))))

    def test_integers(self):
        cases = (
            ("0", 0), ("7", 7), ("-7", -7), ("- 7", -7), ("-\n\n7", -7), ("-0", 0), ("- 0", 0),
            ("1234567890", 1234567890), ("2147483647", 2147483647), ("-2147483648", -2147483648),
            ("-2147483647", -2147483647), ("10", 10), ("100", 100),
        )
        for text, number in cases:
            self.same(expression_of(text), ("int", number))
            self.same(expression_of("(x - " + text + ")"), ("op", "-", X, ("int", number)))

    def test_nesting(self):
        wraps = (
            ("some ", "", lambda tree: ("some", tree)), ("unbox ", "", lambda tree: ("unbox", tree)),
            ("not ", "", lambda tree: ("not", tree)), ("box ", "", lambda tree: ("box", tree)),
            ("swap x with ", "", lambda tree: ("swap", ("x", ()), tree)),
            ("(", " + x)", lambda tree: ("op", "+", tree, X)), ("(x < ", ")", lambda tree: ("op", "<", X, tree)),
            ("(", ", x)", lambda tree: ("tuple", (tree, X))), ("(x, ", ")", lambda tree: ("tuple", (X, tree))),
            ("A(", ")", lambda tree: ("record", "A", (tree,))), ("f(x, ", ")", lambda tree: ("call", "f", (X, tree))),
        )
        for count in (1, 40, 45):
            for start, end, wrap in wraps:
                self.same(expression_of(start * count + "x" + end * count), nested(count, wrap, X))

    def test_nesting_of_all_three(self):
        kind = "(int, " * 40 + "int" + ")" * 40
        expression = "f(" * 40 + "none[" + kind + "]" + ")" * 40
        text = "if x { } else { " * 40 + "do " + expression + ";" + " }" * 40
        inner = ("none", nested(40, lambda part: ("tuple", (INT, part)), INT))
        inner = nested(40, lambda part: ("call", "f", (part,)), inner)
        self.same(block_of(text), nested(40, lambda part: (("if", X, (), part),), (("do", inner),)))


class RandomPrograms(Parsing):
    def test_they_are_read_whatever_stands_between_the_tokens(self):
        seen = set()
        for seed in range(200):
            program = Maker(seed).program()
            tokens = program_tokens(program)
            seen.update(tokens)
            for text in (tight(tokens), " ".join(tokens), loose(tokens, seed)):
                self.same(parse_program(text), program)
        self.assertEqual(set(RESERVED) - seen, set())
