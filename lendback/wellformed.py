"""Which kinds may stand in a program: those of sections 4 and 5."""

from lendback.kinds import BORROWS, is_plain, parts_of
from lendback.layout import cells, record_sizes

MOST_LEVELS = 6
LEAST_ITEMS = 2
MOST_ITEMS = 6
MOST_CELLS = 60


def has_levels(kind, most):
    """True if a kind has at most so many levels; does not look deeper than that."""
    return most > 0 and all([has_levels(part, most - 1) for part in parts_of(kind)])


def kinds_within(kind):
    """The list of a kind and of all kinds inside it."""
    found = [kind]
    for part in parts_of(kind):
        found += kinds_within(part)
    return found


def fits_outside(kind, names):
    """True if a kind may stand around the kinds that stand directly in it."""
    shape = kind[0]
    if shape == "tuple":
        return LEAST_ITEMS <= len(kind[1]) <= MOST_ITEMS
    if shape == "record":
        return kind[1] in names
    if shape == "box" or shape in BORROWS:
        return is_plain(kind[1])
    return shape in ("int", "bool", "unit", "maybe")


def is_formed(kind, names):
    """True if a kind is one of sections 4 and 5, whatever its size is; `names` are those of the records."""
    # The levels come first, so that nothing goes deeper into a kind than they allow.
    return has_levels(kind, MOST_LEVELS) and all([fits_outside(part, names) for part in kinds_within(kind)])


def is_small(kind, sizes):
    """True if a kind and every kind inside it are small enough; `sizes` are those of the records."""
    return all([cells(part, sizes) <= MOST_CELLS for part in kinds_within(kind)])


def is_kind(kind, sizes):
    """True if a kind may stand in a program with records of these sizes."""
    return is_formed(kind, sizes) and is_small(kind, sizes)


def sizes_to_compare(records):
    """A dict from the names of records to their sizes, where a record without a size is too large."""
    sizes = {name: MOST_CELLS + 1 for name, _ in records}
    sizes.update(record_sizes(records))
    return sizes
