"""The errors of the package; each keeps what it is made with."""


class AskError(ValueError):
    """What all errors of the package are; it is raised nowhere itself."""


class Wrong(AskError):
    """The argument with the number place is not as described."""

    def __init__(self, place):
        self.place = place


class Errs(AskError):
    """A step errs at number."""

    def __init__(self, number):
        self.number = number


class NoPart(AskError):
    """Nothing stands at address."""

    def __init__(self, address):
        self.address = address


class NoColumn(AskError):
    """There is no column called name."""

    def __init__(self, name):
        self.name = name


class Twice(AskError):
    """More than one column is called name."""

    def __init__(self, name):
        self.name = name


class NoRow(AskError):
    """What has the number index cannot be taken."""

    def __init__(self, index):
        self.index = index


class Refused(AskError):
    """The index with the number index errs at a row."""

    def __init__(self, index):
        self.index = index


class Ring(AskError):
    """Guards lead part back to itself."""

    def __init__(self, part):
        self.part = part


class Stopped(AskError):
    """The deed with the number index cannot be done."""

    def __init__(self, index):
        self.index = index


class Nothing(AskError):
    """There is nothing to undo, or to do anew."""


class BadDeed(AskError):
    """What was passed is no list of deeds."""


class NoText(AskError):
    """The text cannot be read from line on."""

    def __init__(self, line):
        self.line = line


class NoCommand(AskError):
    """What was passed is no command."""
