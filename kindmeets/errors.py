"""The refusals."""


class BeadError(ValueError):
    """What is handed in is refused."""


class BadBeads(BeadError):
    """No beads."""


class BadMeeting(BeadError):
    """No meeting, or none that can be."""


class BadKind(BeadError):
    """No kind."""


class TooMany(BeadError):
    """More beads than meetings are told of."""
