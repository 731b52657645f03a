"""The errors that the program raises."""


class LendError(ValueError):
    """The base class of all errors that the program raises."""


class SyntaxProblem(LendError):
    """A text has a token that cannot stand where it stands, or ends too early."""

    def __init__(self, line, column):
        super().__init__(f"syntax problem in line {line}, column {column}")
        self.line = line
        self.column = column


class KindProblem(LendError):
    """A program does not pass the check of its kinds."""

    def __init__(self, where, reason):
        super().__init__(f"kind problem in {where}: {reason}")
        self.where = where
        self.reason = reason


class NoSuchFunction(LendError):
    """A program has no function of this name."""

    def __init__(self, name):
        super().__init__(f"there is no function {name}")
        self.name = name


class NotAllocated(LendError):
    """No block of a memory begins at this address, or none has this cell."""

    def __init__(self, address):
        super().__init__(f"not allocated: {address}")
        self.address = address


class NoSuchStep(LendError):
    """A step does not fit the kind of what stands before it."""


class NoSuchVariable(LendError):
    """A place has a variable that is not declared."""


class Refused(LendError):
    """A program that the checker does not accept was to be run."""
