"""The trees of programs: their functions, their expressions, and the kinds of expressions."""

from lendback.places import kind_at

INT = ("int",)
BOOL = ("bool",)
UNIT = ("unit",)


def find_named(declarations, name):
    """The one of these records or functions that has this name, or None."""
    for declaration in declarations:
        if declaration[0] == name:
            return declaration
    return None


def subexpressions(expression):
    """The expressions that stand directly in an expression, from the left to the right."""
    shape = expression[0]
    if shape in ("some", "box", "unbox", "not"):
        return (expression[1],)
    if shape == "tuple":
        return expression[1]
    if shape in ("record", "call"):
        return expression[2]
    if shape in ("swap", "op"):
        return expression[2:]
    return ()


def side_kind(sign):
    """The kind of both sides of an operation."""
    return BOOL if sign in ("and", "or") else INT


def outcome_kind(sign):
    """The kind of what an operation gives."""
    return INT if sign in ("+", "-", "*") else BOOL


def expression_kind(program, kinds, expression, parts):
    """The kind of an expression's value.

    `kinds` is a dict from the names of variables to their kinds, and `parts` are the kinds of
    the subexpressions. The expression fits them.
    """
    records, functions = program
    shape = expression[0]
    if shape in ("use", "swap"):
        return kind_at(expression[1], records=records, kinds=kinds)
    if shape == "borrow":
        return (expression[1], kind_at(expression[2], records=records, kinds=kinds))
    if shape == "call":
        return find_named(functions, expression[1])[2]
    if shape == "op":
        return outcome_kind(expression[1])
    if shape in ("is", "not"):
        return BOOL
    return made_kind(expression, parts)


def made_kind(expression, parts):
    """The kind of a value that needs neither a variable nor a function to be known."""
    shape = expression[0]
    if shape == "none":
        return ("maybe", expression[1])
    if shape in ("some", "box"):
        return ("maybe" if shape == "some" else "box", parts[0])
    if shape == "unbox":
        return parts[0][1]
    if shape == "tuple":
        return ("tuple", tuple(parts))
    if shape == "record":
        return ("record", expression[1])
    return (shape,)
