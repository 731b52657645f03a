"""The parser: a text becomes the tree of a program.

Each function whose name begins with `read` gets the tokens of a text and the index
of the token with which its part begins. It returns the part's tree and the index
behind the part. A part never needs more than its next token to go on, so the first
token that does not fit is the first one that cannot stand where it stands.
"""

from lendback.errors import SyntaxProblem
from lendback.tokens import split_text

LOWEST = -2147483648
HIGHEST = 2147483647
OPERATION_SIGNS = ("+", "-", "*", "<", "==", "and", "or")


def parse_program(text):
    """The tree of a text. Raises SyntaxProblem if the text is not a program."""
    tokens = split_text(text)
    records, at = read_while_seen(tokens, 0, "record", read_declared_record)
    functions, at = read_while_seen(tokens, at, "fn", read_function)
    read_token(tokens, at, "end")
    return (records, functions)


def read_token(tokens, at, label):
    """The text of the next token, which must have this label."""
    found, text, line, column = tokens[at]
    if found != label:
        raise SyntaxProblem(line, column)
    return text, at + 1


def behind(tokens, at, label):
    """The index behind the next token, which must have this label."""
    return read_token(tokens, at, label)[1]


def read_name(tokens, at):
    """A name of a variable, function, parameter or field."""
    return read_token(tokens, at, "name")


def read_while_seen(tokens, at, label, read_part):
    """The parts that begin with a token of this label, as many as there are."""
    parts = []
    while tokens[at][0] == label:
        part, at = read_part(tokens, at)
        parts.append(part)
    return tuple(parts), at


def read_list(tokens, at, read_part):
    """One part, or several with commas between them."""
    part, at = read_part(tokens, at)
    parts = [part]
    while tokens[at][0] == ",":
        part, at = read_part(tokens, at + 1)
        parts.append(part)
    return tuple(parts), at


def read_enclosed_list(tokens, at, read_part):
    """Parts with commas between them, perhaps none, in parentheses."""
    at = behind(tokens, at, "(")
    if tokens[at][0] == ")":
        return (), at + 1
    parts, at = read_list(tokens, at, read_part)
    return parts, behind(tokens, at, ")")


def read_declared_record(tokens, at):
    """A record with its fields."""
    name, at = read_token(tokens, at + 1, "Name")
    at = behind(tokens, at, "{")
    fields, at = read_list(tokens, at, read_field)
    return (name, fields), behind(tokens, at, "}")


def read_field(tokens, at):
    """A field of a record or a parameter of a function, with its kind."""
    name, at = read_name(tokens, at)
    at = behind(tokens, at, ":")
    kind, at = read_kind(tokens, at)
    return (name, kind), at


def read_function(tokens, at):
    """A function with its parameters, result, sources and block."""
    name, at = read_name(tokens, at + 1)
    parameters, at = read_enclosed_list(tokens, at, read_field)
    at = behind(tokens, at, "->")
    result, at = read_kind(tokens, at)
    sources = ()
    if tokens[at][0] == "from":
        sources, at = read_list(tokens, at + 1, read_name)
    block, at = read_block(tokens, at)
    return (name, parameters, result, sources, block), at


def read_kind(tokens, at):
    """A kind."""
    label, text = tokens[at][:2]
    if label in ("int", "bool", "unit"):
        return (label,), at + 1
    if label == "Name":
        return ("record", text), at + 1
    if label in ("box", "maybe"):
        part, at = read_kind(tokens, at + 1)
        return (label, part), at
    if label == "&":
        mode, at = read_mode(tokens, at)
        part, at = read_kind(tokens, at)
        return (mode, part), at
    return read_tuple_kind(tokens, at)


def read_mode(tokens, at):
    """The mode of a borrow or of its kind: `&` or `&mut`."""
    at = behind(tokens, at, "&")
    if tokens[at][0] == "mut":
        return "exclusive", at + 1
    return "shared", at


def read_tuple_kind(tokens, at):
    """The kind of a tuple: two kinds or more in parentheses."""
    at = behind(tokens, at, "(")
    first, at = read_kind(tokens, at)
    at = behind(tokens, at, ",")
    others, at = read_list(tokens, at, read_kind)
    return ("tuple", (first,) + others), behind(tokens, at, ")")


def read_block(tokens, at):
    """The statements between two braces."""
    at = behind(tokens, at, "{")
    statements = []
    while tokens[at][0] != "}":
        statement, at = read_statement(tokens, at)
        statements.append(statement)
    return tuple(statements), at + 1


def read_statement(tokens, at):
    """A statement."""
    label = tokens[at][0]
    if label in ("do", "print", "return"):
        expression, at = read_last_expression(tokens, at + 1)
        return (label, expression), at
    if label == "let":
        return read_let(tokens, at)
    if label == "if":
        return read_if(tokens, at)
    if label == "while":
        return read_while(tokens, at)
    return read_store(tokens, at)


def read_last_expression(tokens, at):
    """The expression at the end of a statement, with the semicolon behind it."""
    expression, at = read_expression(tokens, at)
    return expression, behind(tokens, at, ";")


def read_let(tokens, at):
    """The declaration of a variable."""
    name, at = read_name(tokens, at + 1)
    at = behind(tokens, at, "=")
    expression, at = read_last_expression(tokens, at)
    return ("let", name, expression), at


def read_if(tokens, at):
    """A choice between two blocks."""
    condition, at = read_expression(tokens, at + 1)
    block, at = read_block(tokens, at)
    at = behind(tokens, at, "else")
    other, at = read_block(tokens, at)
    return ("if", condition, block, other), at


def read_while(tokens, at):
    """A block that is repeated."""
    condition, at = read_expression(tokens, at + 1)
    block, at = read_block(tokens, at)
    return ("while", condition, block), at


def read_store(tokens, at):
    """A place that gets a new value."""
    place, at = read_place(tokens, at)
    at = behind(tokens, at, "=")
    expression, at = read_last_expression(tokens, at)
    return ("store", place, expression), at


def read_place(tokens, at):
    """A place."""
    variable, at = read_name(tokens, at)
    steps, at = read_steps(tokens, at)
    return (variable, steps), at


def read_steps(tokens, at):
    """The steps of a place, behind its variable."""
    steps = []
    while tokens[at][0] in (".", "?", "^"):
        step, at = read_step(tokens, at)
        steps.append(step)
    return tuple(steps), at


def read_step(tokens, at):
    """A step of a place."""
    label = tokens[at][0]
    if label in ("?", "^"):
        return label, at + 1
    at = behind(tokens, at, ".")
    if tokens[at][0] == "number":
        return int(tokens[at][1]), at + 1
    return read_name(tokens, at)


def read_expression(tokens, at):
    """An expression."""
    label = tokens[at][0]
    if label in ("number", "-"):
        return read_integer(tokens, at)
    if label in ("true", "false"):
        return ("bool", label == "true"), at + 1
    if label == "unit":
        return ("unit",), at + 1
    if label == "none":
        return read_none(tokens, at)
    if label in ("some", "box", "unbox", "not"):
        part, at = read_expression(tokens, at + 1)
        return (label, part), at
    if label == "&":
        mode, at = read_mode(tokens, at)
        place, at = read_place(tokens, at)
        return ("borrow", mode, place), at
    if label == "swap":
        return read_swap(tokens, at)
    if label == "(":
        return read_in_parentheses(tokens, at)
    if label == "Name":
        return read_made_record(tokens, at)
    return read_named(tokens, at)


def read_integer(tokens, at):
    """An integer, which is an error at its first token if it is out of the range."""
    line, column = tokens[at][2:]
    if tokens[at][0] == "-":
        digits, at = read_token(tokens, at + 1, "number")
        number = -int(digits)
    else:
        digits, at = read_token(tokens, at, "number")
        number = int(digits)
    if not LOWEST <= number <= HIGHEST:
        raise SyntaxProblem(line, column)
    return ("int", number), at


def read_none(tokens, at):
    """An empty `maybe`, with the kind of its payload in brackets."""
    at = behind(tokens, at + 1, "[")
    kind, at = read_kind(tokens, at)
    return ("none", kind), behind(tokens, at, "]")


def read_swap(tokens, at):
    """The exchange of a place's value for a new one."""
    place, at = read_place(tokens, at + 1)
    at = behind(tokens, at, "with")
    expression, at = read_expression(tokens, at)
    return ("swap", place, expression), at


def read_in_parentheses(tokens, at):
    """An operation or a tuple."""
    left, at = read_expression(tokens, at + 1)
    sign = tokens[at][0]
    if sign in OPERATION_SIGNS:
        right, at = read_expression(tokens, at + 1)
        return ("op", sign, left, right), behind(tokens, at, ")")
    at = behind(tokens, at, ",")
    others, at = read_list(tokens, at, read_expression)
    return ("tuple", (left,) + others), behind(tokens, at, ")")


def read_made_record(tokens, at):
    """A record with an expression for each of its fields."""
    name, at = read_token(tokens, at, "Name")
    parts, at = read_enclosed_list(tokens, at, read_expression)
    return ("record", name, parts), at


def read_named(tokens, at):
    """What begins with a small name: a call, the use of a place, or `is some` of one."""
    name, at = read_name(tokens, at)
    if tokens[at][0] == "(":
        parts, at = read_enclosed_list(tokens, at, read_expression)
        return ("call", name, parts), at
    steps, at = read_steps(tokens, at)
    if tokens[at][0] == "is":
        return ("is", (name, steps)), behind(tokens, at + 1, "some")
    return ("use", (name, steps)), at
