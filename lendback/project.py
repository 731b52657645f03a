"""Projects: programs whose functions are replaced, and checked again only where that is needed."""

from lendback.checker import check_function
from lendback.errors import NoSuchFunction
from lendback.graph import build_graph
from lendback.kinding import check_kinds
from lendback.programs import find_named


class Project:
    """A program that passes the check of its kinds, with what the checks of its functions found."""

    def __init__(self, program):
        self.whole = program
        self.checks_made = 0
        self.last_checks = {}

    def replace(self, function):
        """Puts a function in the place of the one with the same name, or at the end.

        Raises KindProblem, and changes nothing, if the new program does not pass the check of its kinds.
        """
        records, functions = self.whole
        if find_named(functions, function[0]) is None:
            changed = functions + (function,)
        else:
            changed = tuple([function if other[0] == function[0] else other for other in functions])
        check_kinds((records, changed))
        self.whole = (records, changed)

    def verdict(self, name):
        """What the checker says of a function of the program as it stands. Raises NoSuchFunction."""
        function = find_named(self.whole[1], name)
        if function is None:
            raise NoSuchFunction(name)
        last = self.last_checks.get(name)
        if last is None or not last.holds(self.whole, function):
            self.checks_made += 1
            last = Check(self.whole, function)
            self.last_checks[name] = last
        return last.found

    def checked(self):
        """How many checks of functions were made so far."""
        return self.checks_made

    def program(self):
        """The program as it stands."""
        return self.whole


class Check:
    """What the check of a function found, and what that depends on."""

    def __init__(self, program, function):
        self.function = function
        graph = build_graph(program, function[0])
        called = [instruction[2] for instruction in graph.points if instruction[0] == "call"]
        self.signatures = {name: signature(program, name) for name in called}
        self.found = check_function(program, function[0])

    def holds(self, program, function):
        """True if a check would find the same, because the function and what it calls look the same."""
        if function != self.function:
            return False
        return all([signature(program, name) == known for name, known in self.signatures.items()])


def signature(program, name):
    """What the check of a function's callers depends on."""
    _, parameters, result, sources, _ = find_named(program[1], name)
    lending = [at for at, (parameter, _) in enumerate(parameters) if parameter in sources]
    return (lending, [kind for _, kind in parameters], result)
