import unittest

from lendback import errors
from lendback.errors import (
    KindProblem, LendError, NoSuchFunction, NoSuchStep, NoSuchVariable, NotAllocated, Refused, SyntaxProblem,
)

OTHERS = (SyntaxProblem, KindProblem, NoSuchFunction, NotAllocated, NoSuchStep, NoSuchVariable, Refused)


class Errors(unittest.TestCase):
    def test_lend_error_is_a_value_error(self):
        self.assertEqual(LendError.__bases__, (ValueError,))

    def test_no_other_one_derives_from_another_one(self):
        for other in OTHERS:
            self.assertEqual(other.__bases__, (LendError,))

    def test_nothing_else_is_an_error(self):
        found = [name for name, value in vars(errors).items() if isinstance(value, type)]
        self.assertEqual(sorted(found), sorted(["LendError"] + [other.__name__ for other in OTHERS]))

    def test_attributes(self):
        cases = (
            (SyntaxProblem(3, 1), {"line": 3, "column": 1}),
            (SyntaxProblem(column=7, line=2), {"line": 2, "column": 7}),
            (KindProblem("main", "unknown"), {"where": "main", "reason": "unknown"}),
            (KindProblem(reason="record", where="Pair"), {"where": "Pair", "reason": "record"}),
            (NoSuchFunction("f"), {"name": "f"}),
            (NoSuchFunction(name="g"), {"name": "g"}),
            (NotAllocated(12), {"address": 12}),
            (NotAllocated(address=0), {"address": 0}),
        )
        for error, attributes in cases:
            self.assertEqual(vars(error), attributes)

    def test_objects_have_attributes_of_their_own(self):
        first, second = SyntaxProblem(1, 2), SyntaxProblem(3, 4)
        self.assertEqual((first.line, first.column, second.line, second.column), (1, 2, 3, 4))

    def test_without_attributes(self):
        for made in (LendError(), NoSuchStep(), NoSuchVariable(), Refused(), Refused("why")):
            self.assertEqual(vars(made), {})

    def test_they_have_a_message(self):
        for made in (SyntaxProblem(3, 1), KindProblem("f", "step"), NoSuchFunction("f"), NotAllocated(5)):
            self.assertNotEqual(str(made), "")
            self.assertIsInstance(made, ValueError)
