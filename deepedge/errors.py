"""The errors of the package. Each one stores what it is given and looks at nothing."""


class EdgeError(ValueError):
    """The base class of the errors about stacks, instructions and what is built of them."""


class InvalidStack(EdgeError):
    """Something is not a stack; `index` tells where."""

    def __init__(self, index):
        self.index = index


class InvalidShuffle(EdgeError):
    """Something is not a list of instructions; `index` tells where."""

    def __init__(self, index):
        self.index = index


class InvalidReach(EdgeError):
    """Something is not a reach."""

    def __init__(self, value):
        self.value = value


class InvalidWanted(EdgeError):
    """Something cannot be wanted or kept."""

    def __init__(self, value):
        self.value = value


class InvalidStep(EdgeError):
    """A step cannot stand where it stands."""

    def __init__(self, index):
        self.index = index


class InvalidCertificate(EdgeError):
    """A certificate does not prove what it should prove."""

    def __init__(self, reason):
        self.reason = reason


class Fault(EdgeError):
    """An instruction cannot be executed."""

    def __init__(self, index, instruction):
        self.index = index
        self.instruction = instruction


class TooLow(EdgeError):
    """A stack has fewer cells than a card needs."""

    def __init__(self, depth):
        self.depth = depth


class Blocked(EdgeError):
    """A stack does not reach a target."""

    def __init__(self, certificate):
        self.certificate = certificate


class Overloaded(EdgeError):
    """More values are live after a step than the reach allows."""

    def __init__(self, step):
        self.step = step


class ParseError(EdgeError):
    """A text is not in the written form."""

    def __init__(self, line, word):
        self.line = line
        self.word = word


class UnknownCommand(EdgeError):
    """Something is not a command."""

    def __init__(self, command):
        self.command = command


class NoFloor(KeyError):
    """Something is not a floor of a pair."""

    def __init__(self, floor):
        self.floor = floor


class NoName(KeyError):
    """Nothing has this name."""

    def __init__(self, name):
        self.name = name


class UnknownOperation(KeyError):
    """No operation with this name is passed."""

    def __init__(self, name):
        self.name = name


class NoMember(IndexError):
    """Nothing has this index."""

    def __init__(self, index):
        self.index = index


class NothingToUndo(LookupError):
    """So many calls cannot be taken back."""

    def __init__(self, count):
        self.count = count


class TooMany(OverflowError):
    """There are more than the limit."""

    def __init__(self, limit):
        self.limit = limit


class TooHigh(OverflowError):
    """A stack is higher than its bound, or the bound is none."""

    def __init__(self, most):
        self.most = most
