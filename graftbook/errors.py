"""The errors of the package. Each keeps its arguments as attributes."""


class GraftError(ValueError):
    """What all errors of the package stand under; never raised itself."""


class InvalidForest(GraftError):
    """A value that must be a forest is none."""

    def __init__(self, value):
        self.value = value


class InvalidPlot(GraftError):
    """A value that must be a plot is none."""

    def __init__(self, value):
        self.value = value


class InvalidPrices(GraftError):
    """A value that must be prices is none."""

    def __init__(self, value):
        self.value = value


class InvalidMatching(GraftError):
    """A value that must be a matching is none."""

    def __init__(self, value):
        self.value = value


class InvalidScript(GraftError):
    """A value that must be a step, a deed or a script is none."""

    def __init__(self, value):
        self.value = value


class InvalidTable(GraftError):
    """A value that must be a table is none."""

    def __init__(self, value):
        self.value = value


class InvalidClaim(GraftError):
    """A value that must be a claim is none."""

    def __init__(self, value):
        self.value = value


class InvalidNumber(GraftError):
    """A value that must be an integer of a certain range is not."""

    def __init__(self, value):
        self.value = value


class InvalidPath(GraftError):
    """There is nothing at a path."""

    def __init__(self, path):
        self.path = path


class InvalidText(GraftError):
    """A text cannot be read; at tells where it goes wrong."""

    def __init__(self, text, at):
        self.text = text
        self.at = at


class Undefined(GraftError):
    """What is asked for does not exist."""

    def __init__(self, what):
        self.what = what


class Refusal(GraftError):
    """A deed cannot be run."""

    def __init__(self, deed, reason):
        self.deed = deed
        self.reason = reason


class Clash(GraftError):
    """Two deeds clash."""

    def __init__(self, deed, other):
        self.deed = deed
        self.other = other


class Refused(GraftError):
    """A claim is not true."""

    def __init__(self, claim):
        self.claim = claim


class InvalidCommand(GraftError):
    """A line of the desk is no command; at is the number of its first wrong word."""

    def __init__(self, line, at):
        self.line = line
        self.at = at


class UnknownName(GraftError):
    """A name of the desk has no value."""

    def __init__(self, name):
        self.name = name


class NothingToUndo(GraftError):
    """There is no deed of the desk to undo or to do again."""

    def __init__(self, deed):
        self.deed = deed
