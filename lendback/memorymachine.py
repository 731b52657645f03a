"""The memory machine: values are rows of numbered cells, and a borrow is the number of a cell."""

from lendback.checker import check_program
from lendback.errors import Refused
from lendback.kinds import kind_after
from lendback.layout import cells, frame, kinds_in_row, offset_of, record_sizes
from lendback.machine import Call, Machine, Stopped, built
from lendback.memory import Memory
from lendback.programs import find_named


def run_memory(program, arguments, limit):
    """How a run of a program ends, and what it prints, by the memory machine.

    Raises Refused if the checker does not accept the program.
    """
    return started(program, arguments).run(limit)


def trace_memory(program, arguments, limit):
    """The allocations and releases of a run in their order. Raises Refused as run_memory does."""
    machine = started(program, arguments)
    machine.run(limit)
    return tuple(machine.trace)


def started(program, arguments):
    """The machine at the beginning of a run of a program that the checker accepts."""
    if check_program(program) is not None:
        raise Refused("the checker does not accept the program")
    return MemoryMachine(program, arguments)


class Blueprint:
    """Where the variables and the places of a function are, seen from the block of a call."""

    def __init__(self, program, sizes, graph):
        self.records = program[0]
        self.sizes = sizes
        self.graph = graph
        self.offsets = frame(program, graph)
        self.routes = {}

    def size_of(self, name):
        """The number of cells of a variable or a temporary."""
        return cells(self.graph.kinds[name], self.sizes)

    def route_to(self, place):
        """The steps to a place, each with what it adds to the address, and the kind of the place."""
        if place not in self.routes:
            variable, steps = place
            kind, route = self.graph.kinds[variable], []
            for step in steps:
                route.append((step, 0 if step == "^" else offset_of(self.records, kind, step, self.sizes)))
                kind = kind_after(self.records, kind, step)
            self.routes[place] = (route, kind)
        return self.routes[place]


class MemoryCall(Call):
    """An open call, whose block begins at an address."""

    def __init__(self, machine, blueprint):
        super().__init__(blueprint.graph)
        self.machine = machine
        self.blueprint = blueprint
        self.base = machine.allocate(blueprint.offsets[""])

    def address_of(self, name):
        """The address of a variable or a temporary."""
        return self.base + self.blueprint.offsets[name]

    def cells_of(self, name):
        """The numbers in the cells of a variable or a temporary."""
        return self.machine.read_cells(self.address_of(name), self.blueprint.size_of(name))

    def put(self, name, numbers):
        """Puts numbers into the cells of a variable or a temporary."""
        self.machine.write_cells(self.address_of(name), numbers)

    def number(self, temporary):
        """The integer in a temporary, or 1 or 0 for a boolean."""
        return self.machine.memory.read(self.address_of(temporary))

    def put_number(self, temporary, number):
        """A temporary gets an integer or a boolean."""
        self.put(temporary, [int(number)])

    def reach(self, place):
        """The address of a place, and its kind."""
        route, kind = self.blueprint.route_to(place)
        address = self.address_of(place[0])
        for step, further in route:
            if step == "^":
                address = self.machine.memory.read(address)
            elif step == "?" and self.machine.memory.read(address) == 0:
                raise Stopped("empty")
            address += further
        return address, kind

    def cells_at(self, place):
        """The address of a place, and the numbers in its cells."""
        address, kind = self.reach(place)
        return address, self.machine.read_cells(address, cells(kind, self.machine.sizes))


def run_set(machine, call, instruction):
    """A value that is written in the program."""
    _, temporary, expression = instruction
    numbers = [0] * call.blueprint.size_of(temporary)
    if expression[0] in ("int", "bool"):
        numbers = [int(expression[1])]
    call.put(temporary, numbers)


def run_make(machine, call, instruction):
    """A value that is made of others."""
    _, temporary, shape, parts = instruction
    numbers = [number for part in parts for number in call.cells_of(part)]
    if shape == "box":
        call.put(temporary, [machine.new_box(numbers)])
    elif shape == "some":
        call.put(temporary, [1] + numbers)
    else:
        call.put(temporary, numbers)


def run_unbox(machine, call, instruction):
    """The content of a box, which is freed."""
    _, temporary, boxed = instruction
    address = call.number(boxed)
    numbers = machine.read_cells(address, call.blueprint.size_of(temporary))
    machine.free_box(address)
    call.put(temporary, numbers)


def run_copy(machine, call, instruction):
    """A copy of the value at a place."""
    _, temporary, place = instruction
    _, numbers = call.cells_at(place)
    call.put(temporary, numbers)


def run_move(machine, call, instruction):
    """The value at a place, which leaves the place."""
    _, temporary, place = instruction
    address, numbers = call.cells_at(place)
    machine.write_cells(address, [0] * len(numbers))
    call.put(temporary, numbers)


def run_borrow(machine, call, instruction):
    """The address of a place."""
    _, temporary, _, place = instruction
    call.put(temporary, [call.reach(place)[0]])


def run_is(machine, call, instruction):
    """Whether a maybe has a payload."""
    _, temporary, place = instruction
    call.put(temporary, [machine.memory.read(call.reach(place)[0])])


def run_swap(machine, call, instruction):
    """The old value of a place, which gets a new one."""
    _, temporary, place, replacement = instruction
    address, numbers = call.cells_at(place)
    machine.write_cells(address, call.cells_of(replacement))
    call.put(temporary, numbers)


def run_call(machine, call, instruction):
    """The begin of a call."""
    _, _, name, parts = instruction
    machine.require_room_for_call()
    machine.open_call(machine.new_call(name, [call.cells_of(part) for part in parts]))


def run_let(machine, call, instruction):
    """A variable that gets its value."""
    _, name, temporary = instruction
    call.put(name, call.cells_of(temporary))


def run_store(machine, call, instruction):
    """A place that gets another value."""
    _, place, temporary = instruction
    address, kind = call.reach(place)
    machine.drop_value(kind, address)
    machine.write_cells(address, call.cells_of(temporary))


def run_drop(machine, call, instruction):
    """A variable or a temporary whose value is dropped."""
    _, name = instruction
    machine.drop_value(call.graph.kinds[name], call.address_of(name))


def run_leave(machine, call, instruction):
    """The end of a call with its value."""
    _, temporary = instruction
    numbers = call.cells_of(temporary)
    caller = machine.close_call()
    if caller is None:
        machine.finish(machine.tree_at(call.graph.kinds[temporary], call.address_of(temporary)))
    machine.free(call.base)
    if caller is not None:
        caller.put(caller.waiting_temporary(), numbers)


ACTIONS = {
    "set": run_set, "make": run_make, "unbox": run_unbox, "copy": run_copy, "move": run_move, "borrow": run_borrow,
    "is": run_is, "swap": run_swap, "call": run_call, "let": run_let, "store": run_store, "drop": run_drop,
    "leave": run_leave,
}


class MemoryMachine(Machine):
    """A memory machine at the beginning of a run."""

    def __init__(self, program, arguments):
        super().__init__(program, dict(ACTIONS))
        self.sizes = record_sizes(program[0])
        self.memory = Memory()
        self.trace = []
        self.blueprints = {}
        self.open_call(self.new_call("main", [[int(argument)] for argument in arguments]))

    def blueprint_of(self, name):
        """Where the variables and the places of a function are."""
        if name not in self.blueprints:
            self.blueprints[name] = Blueprint(self.whole, self.sizes, self.graph_of(name))
        return self.blueprints[name]

    def new_call(self, name, rows):
        """A call of a function whose parameters get these rows of numbers."""
        call = MemoryCall(self, self.blueprint_of(name))
        for parameter, numbers in zip(call.graph.parameters, rows):
            call.put(parameter, numbers)
        return call

    def allocate(self, size):
        """The address of a new block."""
        address = self.memory.allocate(size)
        self.trace.append(("allocate", address, size))
        return address

    def free(self, address):
        """Gives a block back."""
        self.memory.release(address)
        self.trace.append(("release", address))

    def read_cells(self, address, count):
        """The numbers in so many cells in a row."""
        return [self.memory.read(cell) for cell in range(address, address + count)]

    def write_cells(self, address, numbers):
        """Puts numbers into cells in a row."""
        for at, number in enumerate(numbers):
            self.memory.write(address + at, number)

    def new_box(self, numbers):
        """The address of a new box with these numbers in it."""
        self.add_box()
        address = self.allocate(len(numbers))
        self.write_cells(address, numbers)
        return address

    def free_box(self, address):
        """Gives the block of a box back."""
        self.free(address)
        self.remove_boxes(1)

    def drop_value(self, kind, address):
        """Frees the boxes of a value, the content of each before the box itself, and sets its cells to 0."""
        waiting = [(kind, address)]
        while waiting:
            part, at = waiting.pop()
            if part is None:
                self.free_box(at)
            else:
                # What is waiting behind is done first: a box behind its content, and both before the next box.
                for content, target in reversed(self.boxes_at(part, at)):
                    waiting += [(None, target), (content, target)]
        self.write_cells(address, [0] * cells(kind, self.sizes))

    def boxes_at(self, kind, address):
        """The kinds of the contents of a value's own boxes and their addresses, in the order of the value's cells."""
        found, waiting = [], [kind]
        while waiting:
            part = waiting.pop()
            if part[0] in ("tuple", "record"):
                waiting += kinds_in_row(self.whole[0], part)[::-1]
            else:
                # The cells of an absent payload are 0, too, like the cell of a box that was moved.
                if part[0] == "box" and self.memory.read(address) != 0:
                    found.append((part[1], self.memory.read(address)))
                if part[0] == "maybe":
                    waiting.append(part[1])
                address += 1
        return found

    def tree_at(self, kind, address):
        """The tree of a plain value in memory."""

        def parts_at(node):
            return self.parts_of_value(node)

        def tree_around(node, trees):
            return self.tree_of_value(node, trees)

        return built((kind, address), parts_at, tree_around)

    def parts_of_value(self, node):
        """The kinds and addresses of the values directly in a value."""
        kind, address = node
        if kind[0] == "box":
            return [(kind[1], self.memory.read(address))]
        if kind[0] == "maybe":
            return [(kind[1], address + 1)] if self.memory.read(address) != 0 else []
        found = []
        if kind[0] in ("tuple", "record"):
            for part in kinds_in_row(self.whole[0], kind):
                found.append((part, address))
                address += cells(part, self.sizes)
        return found

    def tree_of_value(self, node, trees):
        """The tree of a value with these trees directly in it."""
        kind, address = node
        if kind[0] == "int":
            return ("int", self.memory.read(address))
        if kind[0] == "bool":
            return ("bool", self.memory.read(address) != 0)
        if kind[0] == "maybe":
            return ("some", trees[0]) if trees else ("none",)
        if kind[0] == "box":
            return ("box", trees[0])
        if kind[0] == "record":
            return ("record", kind[1], trees)
        return ("tuple", trees) if kind[0] == "tuple" else ("unit",)
