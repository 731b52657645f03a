"""What both machines have in common: open calls, the order of the instructions, and how runs end.

An action executes an instruction: it is passed the machine, the call and the instruction. Each
machine has its own actions, and its own calls, of which it asks `number(temporary)` and
`put_number(temporary, number)` for the integers and booleans in temporaries.
"""

from lendback.errors import LendError
from lendback.graph import build_graph

MOST_CALLS = 24
MOST_BOXES = 24
LOWEST = -2147483648
INTEGERS = 4294967296


class Stopped(LendError):
    """A run cannot go on. The machines catch this error themselves."""

    def __init__(self, reason):
        super().__init__(f"the run stops: {reason}")
        self.reason = reason


def operate(sign, left, right):
    """What an operation gives."""
    if sign == "<":
        return left < right
    if sign == "==":
        return left == right
    if sign == "and":
        return left and right
    if sign == "or":
        return left or right
    return wrapped(calculate(sign, left, right))


def calculate(sign, left, right):
    """A sum, a difference or a product."""
    if sign == "+":
        return left + right
    return left - right if sign == "-" else left * right


def wrapped(number):
    """The integer in the range of integers that differs from a number by a multiple of their count."""
    return (number - LOWEST) % INTEGERS + LOWEST


def run_op(machine, call, instruction):
    """An operation with two sides."""
    _, temporary, sign, left, right = instruction
    call.put_number(temporary, operate(sign, call.number(left), call.number(right)))


def run_not(machine, call, instruction):
    """The opposite of a boolean."""
    call.put_number(instruction[1], not call.number(instruction[2]))


def run_print(machine, call, instruction):
    """The integer that is printed."""
    machine.printed.append(call.number(instruction[1]))


def run_test(machine, call, instruction):
    """The choice between two points."""
    call.go_on(0 if call.number(instruction[1]) else 1)


def run_jump(machine, call, instruction):
    """Nothing but the way to the next point."""


def run_stop(machine, call, instruction):
    """The end of a function that has no value."""
    raise Stopped("no value")


COMMON_ACTIONS = {
    "op": run_op, "not": run_not, "print": run_print, "test": run_test, "jump": run_jump, "stop": run_stop,
}


class Call:
    """An open call: its graph, the point of the last instruction, and the one of the next."""

    def __init__(self, graph):
        self.graph = graph
        self.last = None
        self.next_point = 0

    def go_on(self, choice):
        """The next point becomes this one of the last point's successors."""
        self.next_point = self.graph.successors[self.last][choice]

    def begin_next(self):
        """The instruction at the next point, which becomes the last one."""
        self.last = self.next_point
        if self.graph.successors[self.last]:
            self.go_on(0)
        return self.graph.points[self.last]

    def waiting_temporary(self):
        """The temporary that gets the value of the call that this one is waiting for."""
        return self.graph.points[self.last][1]


class Machine:
    """A machine that runs a program."""

    def __init__(self, program, actions):
        self.whole = program
        self.actions = dict(COMMON_ACTIONS)
        self.actions.update(actions)
        self.graphs = {}
        self.calls = []
        self.boxes = 0
        self.printed = []
        self.ending = None

    def graph_of(self, name):
        """The graph of a function."""
        if name not in self.graphs:
            self.graphs[name] = build_graph(self.whole, name)
        return self.graphs[name]

    def run(self, limit):
        """How the run ends if it may take so many instructions, and what it printed."""
        try:
            while self.ending is None and limit > 0:
                self.execute_next()
                limit -= 1
        except Stopped as stop:
            self.ending = ("stopped", stop.reason)
        ending = ("running",) if self.ending is None else self.ending
        return (ending, tuple(self.printed))

    def execute_next(self):
        """Executes one instruction."""
        call = self.calls[-1]
        instruction = call.begin_next()
        action = self.actions[instruction[0]]
        action(self, call, instruction)

    def require_room_for_call(self):
        """Stops the run if no further call may be open."""
        if len(self.calls) == MOST_CALLS:
            raise Stopped("deep")

    def open_call(self, call):
        """The call that goes on from now."""
        self.calls.append(call)

    def close_call(self):
        """The call that goes on behind the one that ends, or None."""
        self.calls.pop()
        return self.calls[-1] if self.calls else None

    def finish(self, tree):
        """The run ends, and this is the value of `main`."""
        self.ending = ("returned", tree)

    def add_box(self):
        """One box more, if there may be one."""
        if self.boxes == MOST_BOXES:
            raise Stopped("full")
        self.boxes += 1

    def remove_boxes(self, count):
        """So many boxes less."""
        self.boxes -= count


def built(root, parts_of, build):
    """What `build` makes of a node and of what it made of the node's parts before, for the root of a tree.

    Values can be deeper than calls may be, so this does not go down by calls.
    """
    nodes, starts = [root], []
    while len(starts) < len(nodes):
        parts = parts_of(nodes[len(starts)])
        starts.append(len(nodes))
        nodes += parts
    starts.append(len(nodes))
    made = {}
    for at in reversed(range(len(nodes))):
        made[at] = build(nodes[at], tuple([made[part] for part in range(starts[at], starts[at + 1])]))
    return made[0]
