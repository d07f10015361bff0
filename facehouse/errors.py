"""All refusals that Facehouse makes, one class for each kind."""


class NoFace(ValueError):
    """What was to be read writes no face."""


class NoBody(ValueError):
    """What was to be read is no body of the record."""


class NoValue(TypeError):
    """What was handed in is no value of the ask."""


class NoName(KeyError):
    """There is nothing of this name: name is what was handed in."""

    def __init__(self, name):
        self.name = name


class NoCall(LookupError):
    """There is no call of this number: number is what was handed in."""

    def __init__(self, number):
        self.number = number


class NoHouse(ValueError):
    """No house can be made: why tells what stands in the way."""

    def __init__(self, why):
        self.why = why


class Down(RuntimeError):
    """The end is down."""

    def __init__(self, end):
        self.end = end


class Up(RuntimeError):
    """The end is up already."""

    def __init__(self, end):
        self.end = end


class NoLetter(IndexError):
    """There is no letter of this number in the net: number is what was handed in."""

    def __init__(self, number):
        self.number = number


class NoWork(LookupError):
    """The end has no letter to work on."""

    def __init__(self, end):
        self.end = end


class NoKey(KeyError):
    """There is nothing of this key: key is what was handed in."""

    def __init__(self, key):
        self.key = key


class NoRoll(ArithmeticError):
    """The end can't be rolled so: why tells what stands in the way."""

    def __init__(self, why):
        self.why = why


class NoDeed(TypeError):
    """What stands in the list of deeds is none: at is its place, from 0."""

    def __init__(self, at):
        self.at = at


class NoText(ValueError):
    """What was to be read writes no house."""
