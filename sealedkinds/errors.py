"""The refusals, each with what is refused in its field `what`.

Each writes its own `__init__`: a refusal stands straight under one of Python's errors, and nowhere else.
"""


class BadText(ValueError):
    """A text that is not written as asked for: the text."""

    def __init__(self, what):
        self.what = what


class BadRow(ValueError):
    """A row that can't stand where it stands: its number, or the row of a desk."""

    def __init__(self, what):
        self.what = what


class Faulty(ValueError):
    """A whole with faults: the first of them."""

    def __init__(self, what):
        self.what = what


class Unlike(ValueError):
    """Two modules of unlike faces: the name of the one."""

    def __init__(self, what):
        self.what = what


class Clash(TypeError):
    """Rules that can't be kept together: the first place by which they can't."""

    def __init__(self, what):
        self.what = what


class NotNum(TypeError):
    """A user that is no number: its kind."""

    def __init__(self, what):
        self.what = what


class NoWear(TypeError):
    """A seal that can't be worn otherwise: the name of the value that hinders it."""

    def __init__(self, what):
        self.what = what


class Unknown(LookupError):
    """A name or a from that stands for nothing: its place."""

    def __init__(self, what):
        self.what = what


class NoPlace(LookupError):
    """A place that isn't in the term: the place."""

    def __init__(self, what):
        self.what = what


class NoSeal(LookupError):
    """A seal that isn't there: its name."""

    def __init__(self, what):
        self.what = what


class NoModule(LookupError):
    """A module that isn't there: its name."""

    def __init__(self, what):
        self.what = what


class NoValue(LookupError):
    """A definition that isn't there: its name."""

    def __init__(self, what):
        self.what = what


class NoEdition(LookupError):
    """An edition that isn't there: its number."""

    def __init__(self, what):
        self.what = what


class Met(RuntimeError):
    """A worth that isn't what a rule needs: the spot of the rule."""

    def __init__(self, what):
        self.what = what


class Bare(RuntimeError):
    """A hole that is begun: its spot."""

    def __init__(self, what):
        self.what = what


class Ring(RuntimeError):
    """A use that would lead back: the module used."""

    def __init__(self, what):
        self.what = what


class InUse(RuntimeError):
    """A module that is still used: one that uses it."""

    def __init__(self, what):
        self.what = what


class Busy(RuntimeError):
    """Too many runs under way: how many there are."""

    def __init__(self, what):
        self.what = what


class TooLong(OverflowError):
    """Too many steps, or too great a worth: the bound."""

    def __init__(self, what):
        self.what = what
