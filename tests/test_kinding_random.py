import copy

from lendback.parser import parse_program
from lendback.writer import write_program
from tests.kind_problems import Kinding, problem
from tests.slips import SlipMaker
from tests.valid import ValidMaker


class RandomPrograms(Kinding):
    def test_programs_that_pass(self):
        for seed in range(250):
            program = ValidMaker(seed).program()
            before = copy.deepcopy(program)
            self.passes(program, program)
            self.assertEqual(program, before)
            self.assertEqual(parse_program(write_program(program)), program)

    def test_programs_with_slips(self):
        reasons = {}
        for seed in range(600):
            maker = SlipMaker(seed, (seed % 7 + 1, seed % 7 + 3))
            program = maker.program()
            for _ in range(2):
                self.assertEqual(problem(program), maker.expected, seed)
            if maker.expected:
                reasons[maker.expected[1]] = reasons.get(maker.expected[1], 0) + 1
        self.assertEqual(sorted(reasons), ["borrow", "count", "declared", "kind", "move", "step", "unknown"])
        self.assertGreater(min(reasons.values()), 10)
