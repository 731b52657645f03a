"""Kinds: which values a variable can have, and what one can ask of a kind."""

from lendback.errors import NoSuchStep

BORROWS = ("shared", "exclusive")


def parts_of(kind):
    """The kinds that stand directly in a kind; of a record, none."""
    if kind[0] == "tuple":
        return kind[1]
    if kind[0] in ("box", "maybe") or kind[0] in BORROWS:
        return (kind[1],)
    return ()


def levels(kind):
    """The number of levels of a kind."""
    return 1 + max([levels(part) for part in parts_of(kind)], default=0)


def is_plain(kind):
    """True if a kind contains no borrow."""
    return kind[0] not in BORROWS and all([is_plain(part) for part in parts_of(kind)])


def is_copy(kind):
    """True if a value of a kind is copied when it is used, and not moved."""
    if kind[0] in ("maybe", "tuple"):
        return all([is_copy(part) for part in parts_of(kind)])
    return kind[0] in ("int", "bool", "unit", "shared")


def leaves(kind):
    """The paths to the borrows of a kind, in their order."""
    if kind[0] in BORROWS:
        return ((),)
    if kind[0] == "maybe":
        return tuple([("?",) + path for path in leaves(kind[1])])
    if kind[0] == "tuple":
        return tuple([(index,) + path for index, part in enumerate(kind[1]) for path in leaves(part)])
    return ()


def fields_of(records, name):
    """The fields of the record with this name; none if it is not declared."""
    for record, fields in records:
        if record == name:
            return fields
    return ()


def kind_after(records, kind, step):
    """The kind of what a step selects. Raises NoSuchStep if the step does not fit."""
    if kind[0] == "tuple" and isinstance(step, int) and 0 <= step < len(kind[1]):
        return kind[1][step]
    if kind[0] == "record":
        for field, part in fields_of(records, kind[1]):
            if field == step:
                return part
    if kind[0] == "maybe" and step == "?":
        return kind[1]
    if (kind[0] == "box" or kind[0] in BORROWS) and step == "^":
        return kind[1]
    raise NoSuchStep(f"the step {step!r} does not fit a kind that begins with {kind[0]}")
