"""Effects: what an instruction does to leaves and to places."""

from lendback.kinds import leaves
from lendback.places import crossed, crosses_shared, is_prefix, overlap, place_leaves
from lendback.programs import find_named

PLACE_INDEXES = {"copy": 2, "move": 2, "borrow": 3, "is": 2, "store": 1, "swap": 2}
ACCESS_MODES = {"copy": "read", "move": "move", "is": "read", "store": "store", "swap": "write"}
BORROW_ACCESS_MODES = {"shared": "read", "exclusive": "write"}


def loans(program, graph):
    """A dict from the points that make a loan to the loan's mode and place."""
    found = {}
    for point, instruction in enumerate(graph.points):
        if instruction[0] == "borrow":
            _, _, mode, place = instruction
            if not crosses_shared(place, records=program[0], kinds=graph.kinds):
                found[point] = (mode, place)
    return found


def place_of(instruction):
    """The place that stands in an instruction, or None."""
    if instruction[0] in PLACE_INDEXES:
        return instruction[PLACE_INDEXES[instruction[0]]]
    return None


def taken(instruction):
    """The temporaries of an instruction whose leaves it uses and clears, in their order."""
    word = instruction[0]
    if word in ("make", "call"):
        return instruction[3]
    if word in ("let", "store"):
        return (instruction[2],)
    if word == "leave":
        return (instruction[1],)
    return ()


def leaves_of(program, graph, places):
    """The list of the leaves of several places, one place after the other."""
    return [leaf for place in places for leaf in place_leaves(place, records=program[0], kinds=graph.kinds)]


def by_variable(found):
    """A tuple of leaves in the order of their variables' names."""
    return tuple(sorted(found, key=lambda leaf: leaf[0]))


def uses(program, graph, point):
    """The leaves that the instruction at a point uses."""
    instruction = graph.points[point]
    place = place_of(instruction)
    places = [(name, ()) for name in taken(instruction)]
    if instruction[0] in ("copy", "move"):
        places.append(place)
    found = leaves_of(program, graph, places)
    if place is not None and instruction[0] != "move":
        leaf = crossed(place, records=program[0], kinds=graph.kinds)
        if leaf is not None:
            found.append(leaf)
    return by_variable(found)


def clears(program, graph, point):
    """The leaves that the instruction at a point clears."""
    instruction = graph.points[point]
    places = [(name, ()) for name in taken(instruction)]
    if instruction[0] in ("let", "drop"):
        places.append((instruction[1], ()))
    if instruction[0] in ("move", "store"):
        places.append(place_of(instruction))
    return by_variable(leaves_of(program, graph, places))


def access(program, graph, point):
    """The mode and the place of the access that the instruction at a point makes, or None."""
    instruction = graph.points[point]
    word = instruction[0]
    if word == "drop":
        return ("store", (instruction[1], ()))
    if word == "borrow":
        return (BORROW_ACCESS_MODES[instruction[2]], instruction[3])
    if word in ACCESS_MODES:
        return (ACCESS_MODES[word], place_of(instruction))
    return None


def moves(program, graph, point):
    """The pairs of leaves, from and to, between which the instruction at a point moves marks."""
    instruction = graph.points[point]
    word = instruction[0]
    if word in ("copy", "move"):
        return moves_over(program, graph, place_of(instruction), (instruction[1], ()))
    if word == "let":
        return moves_over(program, graph, (instruction[2], ()), (instruction[1], ()))
    if word == "store":
        return moves_over(program, graph, (instruction[2], ()), instruction[1])
    if word == "borrow":
        leaf = crossed(instruction[3], records=program[0], kinds=graph.kinds)
        return () if leaf is None else ((leaf, (instruction[1], ())),)
    if word == "make":
        return moves_into(graph, instruction)
    if word == "call":
        return moves_through(program, graph, instruction)
    return ()


def moves_over(program, graph, origin, target):
    """The pairs of a place's leaves and the same leaves of another place of the same kind."""
    return tuple(zip(leaves_of(program, graph, [origin]), leaves_of(program, graph, [target])))


def moves_into(graph, instruction):
    """The pairs of the leaves of parts and what they are in the value that is made of the parts."""
    _, temporary, shape, parts = instruction
    found = []
    for index, part in enumerate(parts):
        step = "?" if shape == "some" else index
        for path in leaves(graph.kinds[part]):
            found.append(((part, path), (temporary, (step,) + path)))
    return tuple(found)


def moves_through(program, graph, instruction):
    """The pairs of each leaf that a call may hand on and each leaf of the call's value."""
    _, temporary, name, parts = instruction
    _, parameters, _, sources, _ = find_named(program[1], name)
    origins = [(part, ()) for part, (parameter, _) in zip(parts, parameters) if parameter in sources]
    targets = leaves_of(program, graph, [(temporary, ())])
    return tuple([(origin, target) for origin in leaves_of(program, graph, origins) for target in targets])


def conflicts(access, loan, crossing):
    """True if an access conflicts with the loan of an instruction.

    `crossing` is the number of steps before the step at which the loan's place crosses a borrow,
    or None if it crosses none.
    """
    mode, place = access
    loan_mode, loan_place = loan
    if not overlap(place, loan_place):
        return False
    if mode == "read":
        return loan_mode == "exclusive"
    if mode == "store" and is_prefix(place, loan_place):
        # A borrow that the store replaces was only the way to the lent place, which stays as it is.
        return crossing is None or crossing < len(place[1])
    return True
