"""The checker: the shortest paths that show a problem."""

from lendback.graph import build_graph
from lendback.marks import MarkRules, first_marks, new_marks
from lendback.search import shortest


def check_function(program, name):
    """None, if no path of a function shows a problem, otherwise the problem and a shortest path to one."""
    graph = build_graph(program, name)
    rules = MarkRules(program, graph)

    def following(node):
        """The nodes that follow a pair of a point and of a mark there; instead of a mark stands None, too.

        The marks of a path do not depend on each other, so each can be followed by itself. The
        pairs with None are there for the marks that are still to come.
        """
        point, mark = node
        marks = [None] + new_marks(program, graph, point) if mark is None else rules.passed(point, mark)
        return [(successor, behind) for successor in graph.successors[point] for behind in marks]

    def wanted(node):
        """True if a mark at a point makes a path to this point show a problem."""
        point, mark = node
        return mark is not None and rules.problem(point, mark) is not None

    nodes = shortest([(0, None)] + [(0, mark) for mark in first_marks(program, graph)], following, wanted)
    if nodes is None:
        return None
    last, found = nodes[-1]
    return (rules.problem(last, found), tuple([passed for passed, _ in nodes]))


def check_program(program):
    """None, if no function has a problem, otherwise name, problem and path of the first one that has."""
    for function in program[1]:
        found = check_function(program, function[0])
        if found is not None:
            return (function[0],) + found
    return None
