"""What the program refuses: a class for each kind of refusal, all of them under GapError."""


class GapError(ValueError):
    """Any refusal."""


class NoOffice(GapError):
    """An office of too few or too many numbers or desks."""


class NoDesk(GapError):
    """A desk that the office has not."""


class Stopped(GapError):
    """A deed of a desk that has stopped."""


class NoRoom(GapError):
    """A block that is longer than every run of free numbers."""


class NoCount(GapError):
    """A count of numbers that cannot be."""


class NoWord(GapError):
    """A word that is not one of those by which desks report."""


class Short(GapError):
    """A report of more numbers than the desk has open."""


class NoNumber(GapError):
    """A number that the office has not."""


class Twice(GapError):
    """A paper found whose number is known to be a paper's already."""


class NotThere(GapError):
    """A deed or a look at a place that does not allow it."""


class NoWorld(GapError):
    """What is asked of worlds where there is none."""


class NoBox(GapError):
    """What is handed in as a box, but is none."""
