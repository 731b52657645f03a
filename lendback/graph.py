"""Graphs: a function becomes points with instructions and with the points that follow them."""

from lendback.errors import NoSuchFunction
from lendback.kinds import is_copy
from lendback.programs import UNIT, expression_kind, find_named, subexpressions


class Graph:
    """The graph of a function."""

    def __init__(self, name, parameters, sources, result, kinds, points, successors):
        self.name = name
        self.parameters = parameters
        self.sources = sources
        self.result = result
        self.kinds = kinds
        self.points = points
        self.successors = successors


def build_graph(program, name):
    """The graph of the function with this name. Raises NoSuchFunction if there is none."""
    function = find_named(program[1], name)
    if function is None:
        raise NoSuchFunction(name)
    _, parameters, result, sources, block = function
    lowering = Lowering(program, parameters)
    lowering.lower_body(block, result)
    names = tuple([parameter for parameter, _ in parameters])
    return Graph(name, names, sources, result, lowering.kinds, lowering.points, lowering.successors)


def instruction_of(expression, temporary, parts, kind):
    """The instruction that gives an expression's value, of this kind, to a temporary.

    `parts` are the temporaries of the expressions within it.
    """
    shape = expression[0]
    if shape in ("int", "bool", "unit", "none"):
        return ("set", temporary, expression)
    if shape in ("some", "box", "tuple"):
        return ("make", temporary, shape, parts)
    if shape == "record":
        return ("make", temporary, expression[1], parts)
    if shape == "call":
        return ("call", temporary, expression[1], parts)
    if shape == "use":
        return ("copy" if is_copy(kind) else "move", temporary, expression[1])
    if shape == "borrow":
        return ("borrow", temporary, expression[1], expression[2])
    # What is left has its place or its sign, if it has one, in front of its parts.
    outside = (expression[1],) if shape in ("is", "swap", "op") else ()
    return (shape, temporary) + outside + parts


class Lowering:
    """The points of a function as far as it has been lowered."""

    def __init__(self, program, parameters):
        self.whole = program
        self.kinds = dict(parameters)
        self.points = []
        self.successors = []
        self.scope = [name for name, _ in parameters]
        self.temporaries = 0

    def emit(self, instruction):
        """Puts an instruction behind the others, and returns its point."""
        self.points.append(instruction)
        self.successors.append((len(self.points),))
        return len(self.points) - 1

    def new_temporary(self, kind):
        """The name of a new temporary."""
        name = "#" + str(self.temporaries)
        self.temporaries += 1
        self.kinds[name] = kind
        return name

    def lower_body(self, block, result):
        """The block of the function, and what stands behind it."""
        self.lower_block(block)
        if result == UNIT:
            value = self.lower_expression(("unit",))
            self.drop_all(self.scope)
            self.leave(value)
        else:
            self.end_with(("stop",))

    def end_with(self, instruction):
        """An instruction behind which nothing follows."""
        point = self.emit(instruction)
        self.successors[point] = ()

    def leave(self, value):
        """The end of the call with a value."""
        self.end_with(("leave", value))

    def drop_all(self, names):
        """The drops of variables, the last declared one first."""
        for name in reversed(names):
            self.emit(("drop", name))

    def lower_block(self, block):
        """A block, at whose end its variables go out of scope."""
        outside = len(self.scope)
        for statement in block:
            self.lower_statement(statement)
        self.drop_all(self.scope[outside:])
        del self.scope[outside:]

    def lower_statement(self, statement):
        """A statement."""
        word = statement[0]
        if word == "if":
            self.lower_if(statement)
        elif word == "while":
            self.lower_while(statement)
        elif word in ("let", "store"):
            value = self.lower_expression(statement[2])
            self.emit((word, statement[1], value))
            if word == "let":
                self.scope.append(statement[1])
                self.kinds[statement[1]] = self.kinds[value]
        else:
            value = self.lower_expression(statement[1])
            if word == "return":
                self.drop_all(self.scope)
                self.leave(value)
            else:
                self.emit(("drop" if word == "do" else word, value))

    def lower_if(self, statement):
        """A choice between two blocks."""
        _, condition, block, other = statement
        test = self.emit(("test", self.lower_expression(condition)))
        self.lower_block(block)
        jump = self.emit(("jump",))
        self.lower_block(other)
        self.successors[test] = (test + 1, jump + 1)
        self.successors[jump] = (len(self.points),)

    def lower_while(self, statement):
        """A block that is repeated."""
        _, condition, block = statement
        start = len(self.points)
        test = self.emit(("test", self.lower_expression(condition)))
        self.lower_block(block)
        jump = self.emit(("jump",))
        self.successors[test] = (test + 1, jump + 1)
        self.successors[jump] = (start,)

    def lower_expression(self, expression):
        """The new temporary that gets the value of an expression, whose parts are lowered first."""
        parts = tuple([self.lower_expression(part) for part in subexpressions(expression)])
        kind = expression_kind(self.whole, self.kinds, expression, [self.kinds[part] for part in parts])
        temporary = self.new_temporary(kind)
        self.emit(instruction_of(expression, temporary, parts, kind))
        return temporary
