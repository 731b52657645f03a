import random
import unittest

from lendback.errors import SyntaxProblem
from lendback.parser import parse_program
from lendback.writer import write_program
from tests.grammar import RESERVED, SIGNS, TOKEN, expected_problem, place_behind
from tests.trees import Maker, loose, program_tokens, tight

WRONG_WORDS = (
    "aB", "fooBar", "Foo_bar", "A_", "q" * 21, "R" * 21, "q" * 300, "007", "00", "01", "12345678901", "0" * 11,
    "9" * 30,
)
WRONG_CHARACTERS = ("%", "_", ">", "!", "@", "#", "$", "'", '"', "/", "\\", "|", "~", "`", "\t", "\r")
OTHER_WORDS = ("x", "Pair", "0", "1", "2147483648", "9999999999")
EVERY_FORM = (
    "record A { a: int, b: box bool } record B { c: maybe A } fn f() -> unit { } "
    "fn main(a: &int, b: &mut (int, A, unit)) -> &int from a, b { let x = 1; do -2; print true; "
    "if a.0.f?^ is some { x = false; } else { return unit; } while (x and x) { x.0 = (1, 2, 3); } "
    "do none[maybe &mut A]; do some box unbox not &x; do swap x? with &mut y^; do A(); do B(1, x); "
    "do f(); do f(1, f(x)); do ((1 + 2) - -3); do ((1 * 2) < (3 == 4)); do (x or y); do (x, y); }"
)


def problem(text):
    """Line and column of the problem of a text, or None if it has none."""
    try:
        parse_program(text)
    except SyntaxProblem as found:
        return found.line, found.column
    return None


class Problems(unittest.TestCase):
    def at(self, marked):
        """The text without its first bar has a problem at the first token behind the bar."""
        before, after = marked.split("|", 1)
        blanks = len(after) - len(after.lstrip(" \n"))
        place = place_behind(before + after, len(before) + blanks)
        self.assertEqual(problem(before + after), place, marked)
        self.assertEqual(expected_problem(before + after), place, marked)

    def in_block(self, text):
        self.at("fn main() -> unit {\n  print 1; " + text + " }")

    def expressions(self, *texts):
        for text in texts:
            self.in_block("do " + text + ";")
            self.in_block("x.0 = f(1, " + text + ");")
            self.in_block("if (1 + " + text + ") { } else { }")


class WrongTokens(Problems):
    def test_words_and_characters(self):
        for wrong in WRONG_WORDS + WRONG_CHARACTERS:
            self.at("|" + wrong)
            self.at("\n\n  |" + wrong + " fn")
            self.at("fn |" + wrong + "() -> int { }")
            self.at("record A { a: |" + wrong + " }")
            self.at("fn f(x: int) -> int from |" + wrong + " { }")
            self.expressions("|" + wrong, "- |" + wrong, "&|" + wrong, "x.|" + wrong, "swap |" + wrong)
            self.expressions("x |" + wrong, "(x + |" + wrong + ")", "some |" + wrong, "x is |" + wrong)
            self.in_block("let |" + wrong + " = 1;")
            self.in_block("|" + wrong + " = 1;")

    def test_a_character_inside_a_word(self):
        self.expressions("x|%", "x|%y", "1|_000", "1|.0", "0|x1", "x|>y", "(x |=> y)", "(x|-> y)", "x|!")

    def test_every_character(self):
        for character in [chr(code) for code in range(32, 127)] + ["\n", "\t", "\x00", "\x7f", "\u00e9", "\u0660"]:
            for text in ("do a#;", "do Ab#(1);", "do A#c(1);", "do a#c;", "do 1#;", "do 1#1;", "do (x #y);", "do #x;",
                         "do x.a#;", "do x.1#;", "do x#;", "do -#1;", "x =#= 1;", "# x = 1;"):
                text = "fn f() -> int { " + text.replace("#", character) + " }"
                self.assertEqual(problem(text), expected_problem(text), text)

    def test_the_earliest_problem_counts(self):
        self.at("fn f() -> int { print 1 |} %")
        self.at("fn f() -> int { print |% }")
        self.at("|x % 007")
        self.expressions("(1 |1 007)", "(1 + |007 1)", "|3000000000 007", "(x |= 3000000000)")

    def test_the_longest_token(self):
        self.expressions("(1 |= = 2)", "x|-> 1", "(x + |== 1)")
        self.in_block("x |== 1;")
        self.at("fn f() |- > int { }")
        self.at("fn f() |- -> int { }")
        self.at("|fnf() -> int { }")
        self.at("fn f() -> |int2 { }")
        self.at("fn f() -> & |mutint { }")

    def test_reserved_words_are_no_names(self):
        for word in RESERVED:
            self.at("fn |" + word + "() -> int { }")
            self.at("record |" + word + " { a: int }")
            self.at("record A { |" + word + ": int }")
            self.at("fn f(a: int) -> int from a, |" + word + " { }")
            self.in_block("let |" + word + " = 1;")
            self.expressions("& mut |" + word, "x.|" + word)

    def test_a_name_of_the_other_sort(self):
        self.at("fn |F() -> int { }")
        self.at("record |a { a: int }")
        self.at("record A { |B: int }")
        self.at("fn f(|A: int) -> int { }")
        self.at("fn f() -> |a { }")
        self.at("fn f(a: int) -> int from |A { }")
        self.in_block("let |A = 1;")
        self.in_block("|A = 1;")
        self.expressions("A|", "A|.x", "A |is some", "&|A", "x.|A", "swap |A with 1", "none[|a]")


class Integers(Problems):
    def test_out_of_the_range(self):
        self.expressions("|2147483648", "|9999999999", "|3000000000")
        self.expressions("|-2147483649", "|- 9999999999", "|-\n3000000000", "(x - |2147483648)", "(x - |-2147483649)")
        self.expressions("some |-2147483649", "(x is some - |2147483648)", "(f() - |2147483648)", "(1, |-2147483649)")

    def test_more_than_ten_digits(self):
        self.expressions("|12345678901", "-|12345678901", "-\n |00000000000", "x.|12345678901", "(x - |99999999999)")

    def test_leading_zeros(self):
        self.expressions("|00", "-|00", "- |01", "x.|00", "x.0.|01")

    def test_a_minus_in_front_of_something_else(self):
        self.expressions("-|x", "- |- 1", "-|(1 + 2)", "-|true", "-|", "x.|-1", "x.|- 1")


class WrongPlaces(Problems):
    def test_records(self):
        for text in ("record A |A", "record A { |}", "record A { a |int }", "record A { a: |}", "record A { a: int,| }",
                     "record A { a: int |b: int }", "record A { a: int |; }", "record A { a: int } |}", "record A |( )"):
            self.at(text)

    def test_functions(self):
        for text in ("fn f |{ }", "fn f(|, a: int) -> int { }", "fn f(a|) -> int { }", "fn f(a: int,|) -> int { }",
                     "fn f() |{ }", "fn f() -> |{ }", "fn f() -> int from |{ }", "fn f() -> int from a,| { }",
                     "fn f() -> int from a |b { }", "fn f() -> int |a { }", "fn f() -> int { } |; fn g() -> int { }",
                     "fn f() -> int { } |{", "fn f() -> int { } |}", "fn f() -> int |; ", "fn f(a: int |b: int) -> int { }",
                     "fn f(|int) -> int { }"):
            self.at(text)

    def test_no_record_behind_a_function(self):
        self.at("fn f() -> int { } |record A { a: int }")
        self.at("record A { a: int } fn f() -> int { } fn g() -> int { }\n|record B { a: int }")

    def test_kinds(self):
        for text in ("|", "|1", "(|)", "(int|)", "(int,|)", "(int, int,|)", "(int |int)", "box |", "maybe |,", "&|]",
                     "& mut |", "& mut |mut int", "|mut int", "|true", "int |int", "A|(int)", "& |true", "&|[int]"):
            self.at("fn f() -> unit { do none[" + text + "]; }")

    def test_statements(self):
        for text in ("|;", "let |= 1;", "let x |1;", "let x = |;", "let x = 1 |let", "let x|.0 = 1;", "do |;", "print |;",
                     "return |;", "print 1|, 2;", "x|;", "x|(1);", "x |is some;", "x = |;", "x = 1 |=", "x|: int = 1;",
                     "|1 = x;", "|(x, y) = 1;", "if |{ } else { }", "if x |print 1;", "if x { } |", "if x { } |print 1;",
                     "if x { } else |if x { } else { }", "|else { }", "while |{ }", "while x |;", "while x { } |else { }",
                     "|{ }", "|fn f() -> int { }", "|record", "|true;", "|from", "x^^^^= 1; |;"):
            self.in_block(text)

    def test_expressions(self):
        self.expressions(
            "|", "(|)", "(1|)", "(1,|)", "(1, 2,|)", "(1 +|)", "(1 + 2|, 3)", "(1 + 2 |+ 3)", "(1, 2 |+ 3)", "(1 |2)",
            "(1 + |+ 2)", "(|+ 1)", "(1 |& 2)", "f(|, 1)", "f(1,|)", "f(1 |2)", "A|[1]", "A(1,|)", "A(|,)", "f(1)|.x",
            "f(1)|(2)", "x.0|(1)", "x.f|(1)", "x^|(1)", "A(1)|.x", "A(1)|?", "1|?", "(1, 2)|.0", "none|", "none |int",
            "none[int|)", "none[|]", "some |", "box |", "unbox |", "not |", "&|", "&|1", "&|(x, y)", "&mut |", "&mut |mut x",
            "&x |is some", "&x|(1)", "&x|()", "swap |with 1", "swap x |1", "swap x with |", "swap x|(1) with 1",
            "swap |&x with 1", "swap x |is some with 1", "x is |", "x is |none", "x is some |is some",
            "x.|", "x.|.0", "x.|?", "x |y", "x is some|^", "true |is some", "1 |is some",
            "unit|.0", "|mut x", "|with 1", "|is some", "|int", "|bool", "|else", "|== 1", "|and x", "x|[0]", "|[1]",
            "(x |-> 1)", "(not x |not y)",
        )


class TooEarly(Problems):
    def test_the_place_behind_the_last_character(self):
        for text in ("fn|", "fn |", "fn f|", "fn f() ->|", "fn f() -> int {|", "fn f() -> int {\n|", "fn f() -> int {\n\n\n|",
                     "fn f() -> int {\n  |", "record A { a: int   |", "fn f() -> int { print 1|", "fn f() -> int { print 1; |",
                     "fn f() -> int {\n  print (1 -\n  |", "\n\nfn f() ->\n\n int from|", "fn f() -> int { do -|"):
            self.at(text)

    def test_behind_any_token(self):
        tokens = TOKEN.findall(EVERY_FORM)
        programs = 0
        for count in range(len(tokens)):
            for text in (tight(tokens[:count]), " ".join(tokens[:count]) + " ", loose(tokens[:count], count),
                         "\n".join(tokens[:count]) + "\n"):
                found = expected_problem(text)
                self.assertIn(found, (None, place_behind(text, len(text))))
                self.assertEqual(problem(text), found, text)
                programs += found is None
        # Nothing, and what ends behind the records and the first function, are programs.
        self.assertEqual(programs, 4 * 4)
        self.assertEqual(problem(EVERY_FORM), None)

    def test_behind_any_character(self):
        for length in range(len(EVERY_FORM) + 1):
            text = EVERY_FORM[:length]
            self.assertEqual(problem(text), expected_problem(text), text)


class RandomTexts(Problems):
    """Programs in which a few tokens or characters are other ones, against the grammar itself."""

    def changed_tokens(self, tokens, chance):
        words = RESERVED + SIGNS + list(WRONG_WORDS + WRONG_CHARACTERS + OTHER_WORDS)
        tokens = list(tokens)
        for _ in range(chance.randint(1, 2)):
            at = chance.randrange(len(tokens))
            what = chance.randrange(4)
            if what == 0:
                tokens.insert(at, chance.choice(words))
            elif what == 1:
                tokens[at] = chance.choice(words)
            elif what == 2 and len(tokens) > 1:
                del tokens[at]
            else:
                other = chance.randrange(len(tokens))
                tokens[at], tokens[other] = tokens[other], tokens[at]
        return tokens

    def changed_characters(self, text, chance):
        at = chance.randrange(len(text) + 1)
        return text[:at] + chance.choice(" \n_ax1-=>.(Z0") + text[at + chance.randrange(2):]

    def test_they_have_the_problem_that_the_grammar_tells(self):
        programs = 0
        for seed in range(150):
            tokens = program_tokens(Maker(seed).program())
            chance = random.Random(seed)
            for turn in range(12 if 0 < len(tokens) < 400 else 0):
                changed = self.changed_tokens(tokens, chance)
                text = (tight(changed), " ".join(changed), loose(changed, turn))[turn % 3]
                if turn % 4 == 1:
                    text = self.changed_characters(text, chance)
                found = expected_problem(text)
                self.assertEqual(problem(text), found, text)
                programs += found is None
        self.assertGreater(programs, 10)

    def slipped(self, text, chance):
        """The text with a token that is replaced, put in, left out or doubled; what stands around stays."""
        words = RESERVED + SIGNS + list(WRONG_WORDS + OTHER_WORDS)
        found = chance.choice(list(TOKEN.finditer(text)))
        word, other = found.group(), chance.choice(words)
        new = chance.choice((other, word + " " + other, other + " " + word, "", word + " " + word, word + word))
        return text[:found.start()] + new + text[found.end():]

    def test_written_texts_with_slips(self):
        programs = 0
        for seed in range(150):
            text = write_program(Maker(seed).program())
            chance = random.Random(seed)
            for turn in range(8 if 0 < len(text) < 2000 else 0):
                changed = text
                for _ in range(1 + turn // 3):
                    changed = self.slipped(changed, chance)
                found = expected_problem(changed)
                self.assertEqual(problem(changed), found, changed)
                if found is None:
                    programs += 1
                    self.assertEqual(parse_program(write_program(parse_program(changed))), parse_program(changed))
        self.assertGreater(programs, 10)
