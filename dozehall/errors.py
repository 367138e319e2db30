"""The refusals: one class for each kind, each straight under DozeError."""


class DozeError(ValueError):
    """Any refusal; its field `what` is the very thing that it was made of."""

    def __init__(self, what):
        # No copy: whoever catches a refusal is promised the same object, also where it changed since.
        self.what = what


class NoRoom(DozeError):
    """A room was named that is not there (what: the name)."""


class Asleep(DozeError):
    """A guest that sleeps was to do what only an awake one can (what: the guest)."""


class Awake(DozeError):
    """A guest that does not sleep was to be nudged (what: the guest)."""


class BadCount(DozeError):
    """A count or a mask is out of its bounds (what: that number)."""


class SameRoom(DozeError):
    """A move leads to the very room that it comes from (what: the name)."""


class TwoNames(DozeError):
    """A name is told twice (what: the name)."""


class NoKey(DozeError):
    """A key was named that is not there (what: the name)."""


class NotHolder(DozeError):
    """A guest was to give a key that it does not hold (what: the guest)."""


class Ring(DozeError):
    """A take would make a guest wait for itself (what: the list of the guests on the way)."""


class BadPlan(DozeError):
    """A row of a plan does not fit its world (what: a tuple of the guest and the place)."""


class NoMove(DozeError):
    """A move is not possible (what: the move, or its place in a list of moves)."""


class TooMany(DozeError):
    """More states can be come to than were allowed (what: how many were)."""


class NoName(DozeError):
    """A condition is told with a lock that the book does not have (what: the lock's name)."""


class BadClient(DozeError):
    """A client breaks the rule of its locks or names (what: a tuple of the guest and the place)."""


class NoRow(DozeError):
    """A text is no row (what: the text, or the place of the line)."""


class Stopped(DozeError):
    """A row of a batch was refused, and so the batch (what: the place of the row)."""


class NoBack(DozeError):
    """Nothing is left that could be taken back (what: 0)."""
