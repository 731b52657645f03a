"""The writer: the tree of a program becomes a text."""

INDENT = "    "
MODES = {"shared": "&", "exclusive": "&mut "}


def write_program(program):
    """The text of a tree, with every record and function on a line of its own."""
    records, functions = program
    lines = [record_line(record) for record in records]
    for function in functions:
        lines += function_lines(function)
    return "".join([line + "\n" for line in lines])


def record_line(record):
    """The line of a record."""
    name, fields = record
    words = ["record", name, "{"]
    if fields:
        words.append(fields_text(fields))
    return " ".join(words + ["}"])


def function_lines(function):
    """The lines of a function."""
    name, parameters, result, sources, block = function
    head = f"fn {name}({fields_text(parameters)}) -> {kind_text(result)}"
    if sources:
        head += " from " + ", ".join(sources)
    return [head + " {"] + block_lines(block) + ["}"]


def fields_text(fields):
    """Fields of a record or parameters of a function, with their kinds."""
    return ", ".join([name + ": " + kind_text(kind) for name, kind in fields])


def kind_text(kind):
    """The text of a kind."""
    shape = kind[0]
    if shape == "record":
        return kind[1]
    if shape in MODES:
        return MODES[shape] + kind_text(kind[1])
    if shape == "tuple":
        return "(" + ", ".join([kind_text(part) for part in kind[1]]) + ")"
    if shape in ("box", "maybe"):
        return shape + " " + kind_text(kind[1])
    return shape


def block_lines(block):
    """The lines of a block's statements, further in than what stands around the block."""
    lines = []
    for statement in block:
        lines += statement_lines(statement)
    return [INDENT + line for line in lines]


def statement_lines(statement):
    """The lines of a statement."""
    word = statement[0]
    if word == "let":
        return [f"let {statement[1]} = {expression_text(statement[2])};"]
    if word == "store":
        return [f"{place_text(statement[1])} = {expression_text(statement[2])};"]
    start = word + " " + expression_text(statement[1])
    if word == "if":
        return [start + " {"] + block_lines(statement[2]) + ["} else {"] + block_lines(statement[3]) + ["}"]
    if word == "while":
        return [start + " {"] + block_lines(statement[2]) + ["}"]
    return [start + ";"]


def place_text(place):
    """The text of a place."""
    variable, steps = place
    return variable + "".join([step_text(step) for step in steps])


def step_text(step):
    """The text of a step, behind which the next one follows without a blank."""
    if step in ("?", "^"):
        return step
    return f".{step}"


def expression_text(expression):
    """The text of an expression."""
    shape = expression[0]
    if shape == "int":
        return str(expression[1])
    if shape == "bool":
        return "true" if expression[1] else "false"
    if shape == "unit":
        return "unit"
    if shape == "none":
        return "none[" + kind_text(expression[1]) + "]"
    if shape == "borrow":
        return MODES[expression[1]] + place_text(expression[2])
    if shape == "use":
        return place_text(expression[1])
    if shape == "is":
        return place_text(expression[1]) + " is some"
    return outer_text(expression)


def outer_text(expression):
    """The text of an expression that contains other ones."""
    shape = expression[0]
    if shape == "swap":
        return f"swap {place_text(expression[1])} with {expression_text(expression[2])}"
    if shape == "op":
        return f"({expression_text(expression[2])} {expression[1]} {expression_text(expression[3])})"
    if shape == "tuple":
        return list_text(expression[1])
    if shape in ("record", "call"):
        return expression[1] + list_text(expression[2])
    return shape + " " + expression_text(expression[1])


def list_text(expressions):
    """Expressions in parentheses, with commas between them."""
    return "(" + ", ".join([expression_text(part) for part in expressions]) + ")"
