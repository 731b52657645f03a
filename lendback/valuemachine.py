"""The value machine: an exclusive borrow carries the value itself, and a shared one carries a copy."""

from lendback.kinds import fields_of
from lendback.machine import Call, Machine, Stopped
from lendback.programs import find_named
from lendback.values import Spot, boxes_within, copied, is_dead, make_access, require_living, spot_tree


def run_values(program, arguments, limit):
    """How a run of a program ends, and what it prints, by the value machine."""
    return ValueMachine(program, arguments).run(limit)


class ValueCall(Call):
    """An open call with the spots of its variables and temporaries, as far as they hold something."""

    def __init__(self, graph, records):
        super().__init__(graph)
        self.records = records
        self.spots = {}

    def put(self, name, spot):
        """A variable or a temporary gets a value."""
        self.spots[name] = spot

    def put_value(self, name, value):
        """The same with a value that stands in no spot yet."""
        self.spots[name] = Spot(value)

    def put_number(self, temporary, number):
        """A temporary gets an integer or a boolean."""
        self.put_value(temporary, (self.graph.kinds[temporary][0], number))

    def take(self, name):
        """The spot with a value, which the variable or temporary does not hold any more."""
        return self.spots.pop(name)

    def take_living(self, names):
        """The spots with the values of temporaries, none of which may contain a dead value."""
        require_living([self.spots[name] for name in names])
        return [self.take(name) for name in names]

    def number(self, temporary):
        """The integer or boolean that is taken out of a temporary."""
        return self.take(temporary).held[1]

    def way_to(self, place):
        """The spots that are passed on the way to a place, from its variable's to its own."""
        variable, steps = place
        way = [self.spots[variable]]
        way[0].settle()
        for step in steps:
            way.append(self.part_of(way[-1].held, step))
            way[-1].settle()
        return way

    def way_to_living(self, place):
        """The same for a place in which no dead value may stand."""
        way = self.way_to(place)
        require_living(way[-1:])
        return way

    def part_of(self, value, step):
        """The spot of what a step selects."""
        if is_dead(value):
            raise Stopped("dead")
        if value[0] == "none":
            raise Stopped("empty")
        if value[0] == "record":
            names = [name for name, _ in fields_of(self.records, value[1])]
            return value[2][names.index(step)]
        if value[0] == "tuple":
            return value[1][step]
        if value[0] == "exclusive":
            return value[1].inside
        # The content of a box, the payload of a maybe, or the copy in a shared borrow.
        return value[-1]


def run_set(machine, call, instruction):
    """A value that is written in the program."""
    _, temporary, expression = instruction
    call.put_value(temporary, ("none",) if expression[0] == "none" else expression)


def run_make(machine, call, instruction):
    """A value that is made of others."""
    _, temporary, shape, parts = instruction
    spots = tuple(call.take_living(parts))
    if shape == "box":
        machine.add_box()
    if shape in ("some", "box"):
        call.put_value(temporary, (shape, spots[0]))
    elif shape == "tuple":
        call.put_value(temporary, ("tuple", spots))
    else:
        call.put_value(temporary, ("record", shape, spots))


def run_unbox(machine, call, instruction):
    """The content of a box, which is freed."""
    _, temporary, boxed = instruction
    call.put(temporary, call.take(boxed).held[1])
    machine.remove_boxes(1)


def run_copy(machine, call, instruction):
    """A copy of the value at a place."""
    _, temporary, place = instruction
    way = call.way_to_living(place)
    make_access("read", way)
    call.put(temporary, copied(way[-1]))


def run_move(machine, call, instruction):
    """The value at a place, which leaves the place."""
    _, temporary, place = instruction
    way = call.way_to_living(place)
    make_access("move", way)
    call.put(temporary, way[-1].moved_out())


def run_borrow(machine, call, instruction):
    """A borrow of a place."""
    _, temporary, mode, place = instruction
    way = call.way_to_living(place)
    if mode == "exclusive":
        make_access("write", way)
        call.put_value(temporary, way[-1].lend())
    else:
        make_access("read", way)
        call.put_value(temporary, shared_borrow(way))


def shared_borrow(way):
    """A shared borrow of the last of the spots on a way: of a new loan, or of the one that the way goes through."""
    for spot in way[:-1]:
        if spot.held[0] == "shared":
            # What a shared borrow contains never changes, so a part of it serves as the copy.
            return ("shared", spot.held[1], way[-1])
    return way[-1].share()


def run_is(machine, call, instruction):
    """Whether a maybe has a payload."""
    _, temporary, place = instruction
    way = call.way_to(place)
    if is_dead(way[-1].held):
        raise Stopped("dead")
    make_access("read", way)
    call.put_value(temporary, ("bool", way[-1].held[0] == "some"))


def run_swap(machine, call, instruction):
    """The old value of a place, which gets a new one."""
    _, temporary, place, replacement = instruction
    way = call.way_to_living(place)
    make_access("write", way)
    call.put(temporary, way[-1].moved_out())
    way[-1].hold(call.take(replacement).held)


def run_call(machine, call, instruction):
    """The begin of a call."""
    _, _, name, parts = instruction
    spots = call.take_living(parts)
    machine.require_room_for_call()
    machine.open_call(machine.new_call(name, spots))


def run_let(machine, call, instruction):
    """A variable that gets its value."""
    _, name, temporary = instruction
    call.put(name, call.take_living([temporary])[0])


def run_store(machine, call, instruction):
    """A place that gets another value."""
    _, place, temporary = instruction
    replacement = call.take_living([temporary])[0]
    way = call.way_to(place)
    make_access("store", way)
    machine.remove_boxes(boxes_within(way[-1]))
    way[-1].hold(replacement.held)


def run_drop(machine, call, instruction):
    """A variable or a temporary whose value is dropped."""
    spot = call.take(instruction[1])
    make_access("store", [spot])
    machine.remove_boxes(boxes_within(spot))


def run_leave(machine, call, instruction):
    """The end of a call with its value."""
    spot = call.take_living([instruction[1]])[0]
    caller = machine.close_call()
    if caller is None:
        machine.finish(spot_tree(spot))
    else:
        caller.put(caller.waiting_temporary(), spot)


ACTIONS = {
    "set": run_set, "make": run_make, "unbox": run_unbox, "copy": run_copy, "move": run_move, "borrow": run_borrow,
    "is": run_is, "swap": run_swap, "call": run_call, "let": run_let, "store": run_store, "drop": run_drop,
    "leave": run_leave,
}


class ValueMachine(Machine):
    """A value machine at the beginning of a run."""

    def __init__(self, program, arguments):
        super().__init__(program, dict(ACTIONS))
        parameters = find_named(program[1], "main")[1]
        self.open_call(self.new_call("main", [
            Spot((kind[0], argument)) for (_, kind), argument in zip(parameters, arguments)
        ]))

    def new_call(self, name, spots):
        """A call of a function whose parameters get the values at these spots."""
        graph = self.graph_of(name)
        call = ValueCall(graph, self.whole[0])
        for parameter, spot in zip(graph.parameters, spots):
            call.put(parameter, spot)
        return call
