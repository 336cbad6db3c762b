"""The errors of the package, each with the fields that it is made with."""


class PinError(ValueError):
    """The base of all errors of the package."""


class BadNumber(PinError):
    """An integer or a number is none, or not within its bounds."""

    def __init__(self, part):
        self.part = part


class BadRow(PinError):
    """A row, spot, place, plane or line, or a list of such, is none."""

    def __init__(self, part):
        self.part = part


class BadTable(PinError):
    """A table is none."""

    def __init__(self, part):
        self.part = part


class BadForm(PinError):
    """A form is none."""

    def __init__(self, part):
        self.part = part


class BadText(PinError):
    """A text is not the text of what is told."""

    def __init__(self, part):
        self.part = part


class BadPins(PinError):
    """A value is no Pins."""

    def __init__(self, part):
        self.part = part


class BadSurface(PinError):
    """A value is no Surface."""

    def __init__(self, part):
        self.part = part


class BadName(PinError):
    """A value is none of the 27 names."""

    def __init__(self, part):
        self.part = part


class BadNames(PinError):
    """A list of names is none, or not of the kind that is told."""

    def __init__(self, part):
        self.part = part


class BadRenaming(PinError):
    """A value is no Renaming."""

    def __init__(self, part):
        self.part = part


class BadStroke(PinError):
    """A value is no Stroke, or no Run."""

    def __init__(self, part):
        self.part = part


class BadPaper(PinError):
    """A value is no paper of the class that is told."""

    def __init__(self, part):
        self.part = part


class Misfit(PinError):
    """Arguments are right each by itself, but do not fit together."""

    def __init__(self, part):
        self.part = part


class NoPins(PinError):
    """Six spots are no pins; a denial tells why."""

    def __init__(self, why):
        self.why = why


class NoStroke(PinError):
    """There is no such stroke; a denial tells why."""

    def __init__(self, why):
        self.why = why


class TooMany(PinError):
    """There are more of something than the most that is let."""

    def __init__(self, what, most):
        self.what = what
        self.most = most
