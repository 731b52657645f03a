"""The values of the value machine, the spots that hold them, and the loans of spots.

A value is one of these tuples: ("int", n), ("bool", b), ("unit",), ("none",), ("some", spot),
("box", spot), ("tuple", spots), ("record", name, spots), ("exclusive", loan), ("token", loan),
("shared", loan, spot) and ("dead",).

An exclusive loan itself keeps what its borrow contains, and every borrow knows its loan. So a
borrow need not be looked for when its loan ends, and nothing needs to be kept of a borrow that was
dropped: the document's limbo is made of the loans.
"""

from lendback.machine import Stopped, built

DEAD = ("dead",)


class Spot:
    """What holds a value, with the shared loans by which exactly this is lent."""

    def __init__(self, held):
        self.held = held
        self.tags = {}

    def hold(self, value):
        """The spot gets another value."""
        self.held = value

    def moved_out(self):
        """A new spot with the value, which leaves a dead one here."""
        spot = Spot(self.held)
        self.held = DEAD
        return spot

    def lend(self):
        """The exclusive borrow of a new loan, which takes the value away."""
        loan = Loan(self, Spot(self.held))
        self.held = ("token", loan)
        return ("exclusive", loan)

    def share(self):
        """The shared borrow of a new loan."""
        loan = Loan(self, None)
        self.tags[loan] = True
        return ("shared", loan, copied(self))

    def settle(self):
        """If the value is lent, it is given back."""
        if self.held[0] == "token":
            end_loan(self.held[1])


class Loan:
    """A loan of a spot. Inside an exclusive one is the lent value, in a spot of its own."""

    def __init__(self, spot, inside):
        self.spot = spot
        self.inside = inside
        self.ended = False

    def end(self):
        """Takes the tag away, or gives the value back."""
        self.ended = True
        if self.inside is None:
            del self.spot.tags[self]
        else:
            self.spot.hold(self.inside.held)


def end_loan(loan):
    """Ends a loan, but first the loans of what its borrow contains."""
    # There can be more loans of what loans contain than calls may be open, so this is no recursion.
    ending, at = [loan], 0
    while at < len(ending):
        if ending[at].inside is not None:
            spots = spots_within(ending[at].inside, False)
            ending += tokens_at(spots) + tags_at(spots)
        at += 1
    for inner in reversed(ending):
        inner.end()


def is_dead(value):
    """True if a value is gone: it was moved, or it is a borrow whose loan was ended."""
    return value[0] == "dead" or value[0] in ("exclusive", "shared") and value[1].ended


def inner_spots(value):
    """The list of the spots directly in a value; none in a borrow, although it may contain one."""
    if value[0] in ("some", "box"):
        return [value[1]]
    if value[0] == "tuple":
        return list(value[1])
    if value[0] == "record":
        return list(value[2])
    return []


def spots_within(spot, with_lent):
    """The list of a spot and of all spots within its value, perhaps with those in exclusive borrows."""
    found, at = [spot], 0
    while at < len(found):
        value = found[at].held
        found += inner_spots(value)
        if with_lent and value[0] == "exclusive" and not value[1].ended:
            found.append(value[1].inside)
        at += 1
    return found


def tokens_at(spots):
    """The loans whose tokens stand at spots."""
    return [spot.held[1] for spot in spots if spot.held[0] == "token"]


def tags_at(spots):
    """The loans whose tags stand at spots."""
    return [loan for spot in spots for loan in spot.tags]


def copied(spot):
    """A new spot with a copy of a spot's value, without tags.

    A shared borrow in it stays the same one: nothing ever changes what it contains.
    """
    whole = Spot(spot.held)
    waiting = [whole]
    while waiting:
        current = waiting.pop()
        current.hold(with_own_spots(current.held))
        waiting += inner_spots(current.held)
    return whole


def with_own_spots(value):
    """The same value, but with new spots directly in it."""
    if value[0] in ("some", "box"):
        return (value[0], Spot(value[1].held))
    if value[0] == "tuple":
        return ("tuple", tuple([Spot(part.held) for part in value[1]]))
    if value[0] == "record":
        return ("record", value[1], tuple([Spot(part.held) for part in value[2]]))
    return value


def make_access(mode, way):
    """Ends the loans that an access ends; `way` are the spots from the variable's to the place's own."""
    spots = spots_within(way[-1], mode != "store")
    ending = tokens_at(spots)
    if mode != "read":
        ending += tags_at(spots) + tags_at(way[:-1])
    for loan in ending:
        # One of them may have been ended because it lent what another one contained.
        if not loan.ended:
            end_loan(loan)


def require_living(spots):
    """Stops the run if a dead value stands within one of these spots."""
    for spot in spots:
        if any([is_dead(part.held) for part in spots_within(spot, True)]):
            raise Stopped("dead")


def boxes_within(spot):
    """How many boxes stand within a value, those in borrows not counted."""
    return len([part for part in spots_within(spot, False) if part.held[0] == "box"])


def spot_tree(spot):
    """The tree of the value at a spot."""
    return built(spot, parts_at, tree_at)


def parts_at(spot):
    """The spots directly in the value at a spot."""
    return inner_spots(spot.held)


def tree_at(spot, trees):
    """The tree of the value at a spot, with these trees of its parts directly in it."""
    shape = spot.held[0]
    if shape in ("some", "box"):
        return (shape, trees[0])
    if shape == "tuple":
        return ("tuple", trees)
    if shape == "record":
        return ("record", spot.held[1], trees)
    return spot.held
