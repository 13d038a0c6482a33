"""The refusals: all of them stand right under SteadError."""


class SteadError(ValueError):
    """Something was refused."""

    def __init__(self, message="refused"):
        ValueError.__init__(self, message)


class Fault(SteadError):
    """A page's text has a fault at this row and column."""

    def __init__(self, page, row, column, why):
        SteadError.__init__(self, f"page '{page}', row {row}, column {column}: {why}")
        self.page = page
        self.row = row
        self.column = column
        self.why = why


class NoKind(SteadError):
    """There is no such kind."""


class NoMethod(SteadError):
    """The kind has or finds no such message."""


class NoField(SteadError):
    """The kind has no such own field."""


class NoWord(SteadError):
    """A word is none that may stand there."""


class Ring(SteadError):
    """By parents a kind would never come to Thing."""


class Clash(SteadError):
    """A field would be twice in the line of a kind."""


class Many(SteadError):
    """A bound would be passed."""


class Used(SteadError):
    """A method names a field that would be missing."""


class Busy(SteadError):
    """A run is paused, so none can begin."""


class Idle(SteadError):
    """There is no run for which this could be done."""


class Count(SteadError):
    """There are more or fewer worths than parameters."""


class Full(SteadError):
    """The room can't hold so much."""


class NoFrame(SteadError):
    """There is no such frame."""


class NoName(SteadError):
    """The frame has no such name."""


class Worn(SteadError):
    """The stead has done as many deeds as it may."""


class NoDeed(SteadError):
    """What was handed in is no deed."""


class NoImage(SteadError):
    """What was handed in is no image."""


class Undone(SteadError):
    """A text of deeds was undone, as the deed with this number was refused."""

    def __init__(self, at):
        SteadError.__init__(self, f"deed {at} was refused, so all of the text is undone")
        self.at = at
