"""The refusals of the program."""


class PackError(ValueError):
    """Any refusal."""


class NoOffer(PackError):
    """The offer at this place can't stand in the shop."""

    def __init__(self, place):
        PackError.__init__(self, f"the offer at place {place} can't stand in the shop")
        self.place = place


class NoText(PackError):
    """The row with this number is no text of an offer or of contents."""

    def __init__(self, row):
        PackError.__init__(self, f"row {row} can't be read")
        self.row = row


class NoLine(PackError):
    """A line that the desk does not know."""


class NoPlace(PackError):
    """A place that is not the last offer's."""


class NoThings(PackError):
    """A line ahead of the first names of things."""
