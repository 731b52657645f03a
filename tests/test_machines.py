"""Points 1, 43 and 47 over random programs that the checker accepts."""

import random
import unittest

from lendback.checker import check_program
from lendback.errors import Refused
from lendback.memorymachine import run_memory, trace_memory
from lendback.valuemachine import ValueMachine, run_values
from tests.accepted import AcceptedMaker, LendingMaker
from tests.plain_marks import PlainMarks
from tests.test_memorymachine import remaining
from tests.valid import INT, ValidMaker, parts_with_steps


def arguments_of(program, seed):
    chance = random.Random(seed)
    (parameters,) = [row[1] for row in program[1] if row[0] == "main"]
    return tuple([chance.choice((0, 1, 3, -2147483648)) if kind == INT else chance.random() < 0.5 for _, kind in parameters])


def accepted(maker, seeds, most):
    for seed in range(seeds):
        program = maker(seed, most).program()
        if check_program(program) is None:
            yield program, arguments_of(program, seed)


class Agreement(unittest.TestCase):
    def compare(self, programs, limits):
        endings = {}
        for program, arguments in programs:
            for limit in limits:
                found = run_values(program, arguments, limit)
                self.assertEqual(run_memory(program, arguments, limit), found)
                self.released(trace_memory(program, arguments, limit), found[0])
            word = found[0][1] if found[0][0] == "stopped" else found[0][0]
            endings[word] = endings.get(word, 0) + 1
        return endings

    def released(self, trace, ending):
        """Section 47 for the trace of a run that ends like this."""
        blocks = remaining(trace)
        if ending[0] == "returned":
            self.assertEqual(len(blocks), str(ending[1]).count("('box'"))
        self.assertEqual(trace[0][:2], ("allocate", 1))

    def test_programs_that_are_accepted_as_they_are(self):
        endings = self.compare(accepted(ValidMaker, 500, 5), (0, 40, 300))
        for word in ("returned", "running", "no value", "empty", "deep"):
            self.assertGreater(endings[word], 10)
        self.compare(accepted(LendingMaker, 700, 8), (300,))

    def test_programs_that_are_made_to_be_accepted(self):
        endings = self.compare(accepted(AcceptedMaker, 60, 5), (7, 100, 400))
        self.assertEqual(sum(endings.values()), 60)
        self.assertNotIn("dead", endings)

    def test_every_limit(self):
        for program, arguments in accepted(LendingMaker, 40, 5):
            full = trace_memory(program, arguments, 120)
            before = ()
            for limit in range(121):
                found = run_values(program, arguments, limit)
                self.assertEqual(run_memory(program, arguments, limit), found)
                self.assertEqual(found[1][:len(before)], before)
                before = found[1]
                trace = trace_memory(program, arguments, limit)
                self.assertEqual(full[:len(trace)], trace)
                if found[0] != ("running",):
                    break
            self.assertEqual(trace, full)

    def test_refused_programs(self):
        count = 0
        for seed in range(150):
            program = LendingMaker(seed, 8).program()
            if check_program(program) is not None:
                count += 1
                for run in (run_memory, trace_memory):
                    with self.assertRaises(Refused):
                        run(program, arguments_of(program, seed), 10)
        self.assertGreater(count, 50)


class MarkedMachine(ValueMachine):
    """A value machine that keeps the marks behind the path that each call has taken."""

    def __init__(self, program, arguments):
        self.plain = {row[0]: PlainMarks(program, row[0]) for row in program[1]}
        self.marks, self.asked = [], 0
        super().__init__(program, arguments)

    def open_call(self, call):
        super().open_call(call)
        self.marks.append(frozenset(self.plain[call.graph.name].first()))

    def close_call(self):
        self.marks.pop()
        return super().close_call()

    def execute_next(self):
        call, at = self.calls[-1], len(self.calls) - 1
        for name, spot in call.spots.items():
            self.ask(self.marks[at], (name, ()), spot.held, call.graph.kinds[name])
        plain, point = self.plain[call.graph.name], call.next_point
        behind = plain.behind(point, self.marks[at])
        if call.graph.points[point][0] != "leave":
            self.marks[at] = behind
        super().execute_next()

    def ask(self, marks, place, value, kind):
        """Section 43 for a place of the call, its value and its kind."""
        name, steps = place
        if value[0] == "dead":
            self.asked += 1
            assert any(mark[0] == "moved" and mark[1] in [(name, steps[:count]) for count in range(len(steps) + 1)]
                       for mark in marks), (place, marks)
        elif value[0] in ("exclusive", "shared"):
            if value[1].ended:
                self.asked += 1
                assert any(mark[:2] == ("loan", place) and mark[3] == "dead" for mark in marks), (place, marks)
        elif value[0] in ("tuple", "record", "some"):
            spots = value[1:] if value[0] == "some" else value[-1]
            for spot, (step, part) in zip(spots, parts_with_steps(self.whole[0], kind)):
                self.ask(marks, (name, steps + (step,)), spot.held, part)


class DeadValues(unittest.TestCase):
    def test_they_are_marked(self):
        asked = 0
        for maker, seeds, most in ((AcceptedMaker, 25, 5), (LendingMaker, 600, 8), (ValidMaker, 200, 5)):
            for program, arguments in accepted(maker, seeds, most):
                machine = MarkedMachine(program, arguments)
                self.assertNotEqual(machine.run(150)[0], ("stopped", "dead"))
                asked += machine.asked
        self.assertGreater(asked, 300)
