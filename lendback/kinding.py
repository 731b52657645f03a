"""The check of a program's kinds: its records, its signatures, and then the blocks of its functions."""

from lendback.errors import KindProblem, NoSuchStep, NoSuchVariable
from lendback.kinds import is_copy, is_plain, leaves
from lendback.places import crosses_shared, kind_at
from lendback.programs import BOOL, INT, expression_kind, find_named, side_kind, subexpressions
from lendback.wellformed import MOST_CELLS, is_formed, is_kind, is_small, sizes_to_compare

MOST_FIELDS = 6
MOST_PARAMETERS = 6
MOST_STEPS = 12


def check_kinds(program):
    """None, if the program passes the check of its kinds. Otherwise raises KindProblem."""
    records, functions = program
    check_record_forms(records)
    sizes = sizes_to_compare(records)
    check_record_sizes(records, sizes)
    check_signatures(functions, sizes)
    check_main(functions)
    for function in functions:
        BlockCheck(program, sizes, function).check_block(function[4])


def differ(names):
    """True if no name stands twice in a list."""
    return len(set(names)) == len(names)


def check_record_forms(records):
    """The first round over the records: everything but the sizes."""
    names = [name for name, _ in records]
    for index, (name, fields) in enumerate(records):
        if name in names[:index] or not are_fields(fields, names):
            raise KindProblem(name, "record")


def are_fields(fields, names):
    """True if a record may have these fields, whatever their sizes are."""
    return (1 <= len(fields) <= MOST_FIELDS and differ([field for field, _ in fields])
            and all([is_formed(kind, names) and is_plain(kind) for _, kind in fields]))


def check_record_sizes(records, sizes):
    """The second round over the records: their sizes, and those of the kinds in them."""
    for name, fields in records:
        if sizes[name] > MOST_CELLS or not all([is_small(kind, sizes) for _, kind in fields]):
            raise KindProblem(name, "record")


def check_signatures(functions, sizes):
    """The names, parameters, results and sources of the functions."""
    names = [function[0] for function in functions]
    for index, function in enumerate(functions):
        if names[index] in names[:index] or not is_signature(function, sizes):
            raise KindProblem(names[index], "signature")


def is_signature(function, sizes):
    """True if a function may have its parameters, its result and its sources."""
    _, parameters, result, sources, _ = function
    names = [name for name, _ in parameters]
    kinds = [kind for _, kind in parameters] + [result]
    if len(names) > MOST_PARAMETERS or not differ(names) or not all([is_kind(kind, sizes) for kind in kinds]):
        return False
    lending = [name for name, kind in parameters if leaves(kind)]
    return differ(sources) and all([source in lending for source in sources])


def check_main(functions):
    """The function with which a run begins."""
    found = find_named(functions, "main")
    if found is None or not all([kind in (INT, BOOL) for _, kind in found[1]]) or not is_plain(found[2]):
        raise KindProblem("main", "main")


class BlockCheck:
    """The check of one function's statements, with what the statements so far have declared."""

    def __init__(self, program, sizes, function):
        self.whole = program
        self.sizes = sizes
        self.name, parameters, self.result = function[:3]
        self.kinds = dict(parameters)
        self.declared = {name: True for name, _ in parameters}

    def require(self, holds, reason):
        """Raises the problem with this reason if something does not hold."""
        if not holds:
            raise KindProblem(self.name, reason)

    def check_block(self, block):
        """The statements of a block, behind which its variables are out of scope."""
        outside = self.kinds
        self.kinds = dict(outside)
        for statement in block:
            self.check_statement(statement)
        self.kinds = outside

    def check_statement(self, statement):
        """A statement, its expression first."""
        word = statement[0]
        kind = self.check_expression(statement[2] if word in ("let", "store") else statement[1])
        if word == "let":
            self.declare(statement[1], kind)
        elif word == "store":
            self.require(kind == self.changed_kind(statement[1]), "kind")
        elif word == "print":
            self.require(kind == INT, "kind")
        elif word == "return":
            self.require(kind == self.result, "kind")
        elif word in ("if", "while"):
            self.require(kind == BOOL, "kind")
            for block in statement[2:]:
                self.check_block(block)

    def declare(self, name, kind):
        """The declaration of a variable, whose name stays taken behind the end of its block."""
        self.require(name not in self.declared, "declared")
        self.declared[name] = True
        self.kinds[name] = kind

    def check_expression(self, expression):
        """The kind of an expression, whose parts are checked first."""
        parts = [self.check_expression(part) for part in subexpressions(expression)]
        shape = expression[0]
        if shape in ("use", "is", "borrow", "swap"):
            self.check_access(expression, parts)
        elif shape in ("record", "call"):
            self.check_list(expression, parts)
        elif shape == "op":
            self.require(parts == [side_kind(expression[1])] * 2, "kind")
        elif shape == "not":
            self.require(parts == [BOOL], "kind")
        elif shape == "unbox":
            self.require(parts[0][0] == "box", "kind")
        kind = expression_kind(self.whole, self.kinds, expression, parts)
        if shape in ("none", "some", "box", "borrow", "tuple"):
            self.require(is_kind(kind, self.sizes), "kind")
        return kind

    def check_access(self, expression, parts):
        """An expression that has a place of its own."""
        shape = expression[0]
        if shape == "use":
            kind = self.reached_kind(expression[1])
            self.require(is_copy(kind) or "^" not in expression[1][1], "move")
        elif shape == "is":
            self.require(self.reached_kind(expression[1])[0] == "maybe", "kind")
        elif shape == "borrow":
            _, mode, place = expression
            kind = self.reached_kind(place) if mode == "shared" else self.changed_kind(place)
            self.require(is_plain(kind), "borrow")
        else:
            kind = self.changed_kind(expression[1])
            self.require(is_plain(kind), "borrow")
            self.require(parts == [kind], "kind")

    def reached_kind(self, place):
        """The kind of a place that is in scope and has fitting steps."""
        try:
            kind = kind_at(place, records=self.whole[0], kinds=self.kinds)
        except NoSuchVariable:
            raise KindProblem(self.name, "unknown") from None
        except NoSuchStep:
            raise KindProblem(self.name, "step") from None
        self.require(len(place[1]) <= MOST_STEPS, "step")
        return kind

    def changed_kind(self, place):
        """The kind of a place that may be changed, hence not through a shared borrow."""
        kind = self.reached_kind(place)
        self.require(not crosses_shared(place, records=self.whole[0], kinds=self.kinds), "borrow")
        return kind

    def check_list(self, expression, parts):
        """A record or a call, whose expressions must fit the fields or the parameters."""
        shape, name, _ = expression
        declared = self.whole[0] if shape == "record" else self.whole[1]
        found = find_named(declared, name)
        self.require(found is not None, "unknown")
        self.require(len(parts) == len(found[1]), "count")
        self.require(parts == [kind for _, kind in found[1]], "kind")
