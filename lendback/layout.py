"""The layout of values: how many cells they take, and where their parts and the variables of a call are."""

from lendback.errors import NoSuchStep
from lendback.kinds import fields_of, kind_after


def cells(kind, sizes):
    """The number of cells of a kind; `sizes` is a dict from the names of its records to their sizes."""
    if kind[0] == "maybe":
        return 1 + cells(kind[1], sizes)
    if kind[0] == "tuple":
        return sum([cells(part, sizes) for part in kind[1]])
    if kind[0] == "record":
        return sizes[kind[1]]
    return 1


def has_size(kind, sizes):
    """True if the records that a kind contains without a box between have sizes in a dict."""
    if kind[0] == "maybe":
        return has_size(kind[1], sizes)
    if kind[0] == "tuple":
        return all([has_size(part, sizes) for part in kind[1]])
    return kind[0] != "record" or kind[1] in sizes


def record_sizes(records):
    """A dict from the names of records to their sizes.

    A record is not in it if it contains, without a box between, itself or a record that does.
    """
    sizes = {}
    before = -1
    while before < len(sizes):
        before = len(sizes)
        for name, fields in records:
            if name not in sizes and all([has_size(kind, sizes) for _, kind in fields]):
                sizes[name] = sum([cells(kind, sizes) for _, kind in fields])
    return sizes


def size(records, kind):
    """The number of cells of a kind."""
    return cells(kind, record_sizes(records))


def kinds_in_row(records, kind):
    """The kinds of the parts whose cells, one part after the other, are those of a tuple or a record."""
    if kind[0] == "record":
        return [part for _, part in fields_of(records, kind[1])]
    return list(kind[1])


def offset(records, kind, step):
    """The offset of the part that a step other than "^" selects. Raises NoSuchStep if it selects none."""
    return offset_of(records, kind, step, record_sizes(records))


def offset_of(records, kind, step, sizes):
    """The same for records whose sizes are known already."""
    if step == "^":
        raise NoSuchStep("what a box or a borrow leads to is not in the same row of cells")
    kind_after(records, kind, step)
    if kind[0] == "maybe":
        return 1
    index = step
    if kind[0] == "record":
        index = [field for field, _ in fields_of(records, kind[1])].index(step)
    return sum([cells(part, sizes) for part in kinds_in_row(records, kind)[:index]])


def variables_of(graph):
    """The parameters of a graph, and then its other variables and temporaries as they first appear."""
    found = {name: True for name in graph.parameters}
    for instruction in graph.points:
        # What gets a value stands behind the word; it appears nowhere before it has one.
        if instruction[1:] and isinstance(instruction[1], str):
            found[instruction[1]] = True
    return list(found)


def frame(program, graph):
    """A dict from the variables of a graph to their offsets in the block of a call.

    With the key "" it has the size of the block.
    """
    sizes = record_sizes(program[0])
    offsets, end = {}, 0
    for name in variables_of(graph):
        offsets[name] = end
        end += cells(graph.kinds[name], sizes)
    offsets[""] = max(end, 1)
    return offsets
