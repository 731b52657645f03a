"""Places: pairs of a variable and the steps that lead to a part of its value."""

from lendback.errors import NoSuchVariable
from lendback.kinds import BORROWS, kind_after, leaves


def is_prefix(first, second):
    """True if the first place is a prefix of the second one, or equal to it."""
    return first[0] == second[0] and first[1] == second[1][:len(first[1])]


def overlap(first, second):
    """True if one of two places is a prefix of the other."""
    return is_prefix(first, second) or is_prefix(second, first)


def kinds_along(place, records, kinds):
    """The kinds on the way to a place: of its variable, and behind each of its steps."""
    variable, steps = place
    if variable not in kinds:
        raise NoSuchVariable(f"there is no variable {variable}")
    passed = [kinds[variable]]
    for step in steps:
        passed.append(kind_after(records, passed[-1], step))
    return passed


def kind_at(place, *, records, kinds):
    """The kind of a place. Raises NoSuchVariable or NoSuchStep if there is no such place."""
    return kinds_along(place, records, kinds)[-1]


def crossed(place, *, records, kinds):
    """The leaf, itself a place, that a place crosses, or None. Raises what kind_at raises."""
    variable, steps = place
    passed = kinds_along(place, records, kinds)
    for index in range(len(steps)):
        # The only step that fits a borrow is "^", so a step at a borrow crosses it.
        if passed[index][0] in BORROWS:
            return (variable, steps[:index])
    return None


def crosses_shared(place, *, records, kinds):
    """True if a place crosses a shared borrow. Raises what kind_at raises."""
    leaf = crossed(place, records=records, kinds=kinds)
    return leaf is not None and kind_at(leaf, records=records, kinds=kinds)[0] == "shared"


def place_leaves(place, *, records, kinds):
    """The leaves of a place, as places, in their order. Raises what kind_at raises."""
    variable, steps = place
    kind = kind_at(place, records=records, kinds=kinds)
    return tuple([(variable, steps + path) for path in leaves(kind)])
