"""The errors of the package."""


class RingError(ValueError):
    """The base class of all errors of the package."""


class NoRing(RingError):
    """The number of servers is not from 2 to 60."""


class NoServer(RingError):
    """The number is no server of the ring."""


class NoRound(RingError):
    """The object is no round, no list of rounds or no list of times for one."""


class NoDrops(RingError):
    """The object is no drops."""


class NoAssignment(RingError):
    """The object is no assignment."""


class NoObservation(RingError):
    """The object is no observation."""


class NoWeights(RingError):
    """The object is no weights."""


class NoOrder(RingError):
    """The object is no order."""


class NoNumber(RingError):
    """The number is out of its range."""


class NoBatch(RingError):
    """The servers cannot be restarted together now."""


class Nothing(RingError):
    """There is nothing to undo."""


class Impossible(RingError):
    """No round fits; reason is the certificate of it."""

    def __init__(self, reason):
        self.reason = reason


class NoText(RingError):
    """The text cannot be read; at is the number of the first word that cannot stand."""

    def __init__(self, at):
        self.at = at
