"""What the tests of the two machines have in common."""

import unittest

from lendback.checker import check_program
from lendback.errors import Refused
from lendback.kinding import check_kinds
from lendback.memorymachine import run_memory, trace_memory
from lendback.parser import parse_program
from lendback.valuemachine import run_values
from tests.plain_values import PlainMachine


def read(text):
    program = parse_program(text)
    check_kinds(program)
    return program


class Running(unittest.TestCase):
    def run_all(self, program, arguments=(), limit=10000):
        """The answer of the value machine, which the others must give, too, if they run the program."""
        found = run_values(program, arguments, limit)
        self.assertEqual(PlainMachine(program, arguments).run(limit), found)
        if check_program(program) is None:
            self.assertEqual(run_memory(program, arguments, limit), found)
        else:
            for run in (run_memory, trace_memory):
                with self.assertRaises(Refused):
                    run(program, arguments, limit)
        return found

    def ends(self, text, ending, *printed, arguments=(), limit=10000):
        """A run of a text that is accepted."""
        program = read(text)
        self.assertIsNone(check_program(program), text)
        self.assertEqual(repr(self.run_all(program, arguments, limit)), repr((ending, printed)), text)

    def ends_refused(self, text, ending, *printed, arguments=(), limit=10000):
        """A run of a text that is refused."""
        program = read(text)
        self.assertIsNotNone(check_program(program), text)
        self.assertEqual(repr(self.run_all(program, arguments, limit)), repr((ending, printed)), text)

    def returns(self, block, tree, *printed, head="", kind="int"):
        self.ends(f"{head} fn main() -> {kind} {{ {block} }}", ("returned", tree), *printed)

    def stops(self, block, reason, *printed, head="", kind="int"):
        self.ends(f"{head} fn main() -> {kind} {{ {block} }}", ("stopped", reason), *printed)

    def dies(self, block, *printed, head=""):
        self.ends_refused(f"{head} fn main() -> unit {{ {block} }}", ("stopped", "dead"), *printed)

    def lives(self, block, *printed, head=""):
        """A refused program that runs to its end all the same."""
        self.ends_refused(f"{head} fn main() -> unit {{ {block} }}", ("returned", ("unit",)), *printed)
