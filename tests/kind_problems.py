"""What the tests of the check of kinds have in common."""

import unittest

from lendback.errors import KindProblem
from lendback.kinding import check_kinds
from lendback.parser import parse_program

INT, UNIT = ("int",), ("unit",)
MAIN = " fn main() -> unit { }"


def problem(program):
    """Where and why a program, or its text, does not pass; None if it does."""
    try:
        found = check_kinds(parse_program(program) if isinstance(program, str) else program)
    except KindProblem as caught:
        return caught.where, caught.reason
    assert found is None
    return None


def cases(rows):
    """The texts that stand between bars."""
    return [" ".join(row.split()) for row in rows.split("|")]


def of_cells(count, part="int"):
    """The text of a kind of so many cells, which has few levels."""
    if count == 1:
        return part
    sizes = [count // 6 + (at < count % 6) for at in range(6)]
    return "(" + ", ".join(of_cells(size, part) for size in sizes if size) + ")"


class Kinding(unittest.TestCase):
    def passes(self, *programs):
        for program in programs:
            self.assertIsNone(problem(program), program)

    def fails(self, where, reason, *programs):
        for program in programs:
            self.assertEqual(problem(program), (where, reason), program)
