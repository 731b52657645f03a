"""The layout of values: how many cells the value of a kind takes."""


def cells(kind, sizes):
    """The number of cells of a kind; `sizes` is a dict from the names of its records to their sizes."""
    if kind[0] == "maybe":
        return 1 + cells(kind[1], sizes)
    if kind[0] == "tuple":
        return sum([cells(part, sizes) for part in kind[1]])
    if kind[0] == "record":
        return sizes[kind[1]]
    return 1


def has_size(kind, sizes):
    """True if the records that a kind contains without a box between have sizes in a dict."""
    if kind[0] == "maybe":
        return has_size(kind[1], sizes)
    if kind[0] == "tuple":
        return all([has_size(part, sizes) for part in kind[1]])
    return kind[0] != "record" or kind[1] in sizes


def record_sizes(records):
    """A dict from the names of records to their sizes.

    A record is not in it if it contains, without a box between, itself or a record that does.
    """
    sizes = {}
    before = -1
    while before < len(sizes):
        before = len(sizes)
        for name, fields in records:
            if name not in sizes and all([has_size(kind, sizes) for _, kind in fields]):
                sizes[name] = sum([cells(kind, sizes) for _, kind in fields])
    return sizes


def size(records, kind):
    """The number of cells of a kind."""
    return cells(kind, record_sizes(records))
