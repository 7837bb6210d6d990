"""Beads, the meetings that can be among them, and the beads behind a meeting."""

from kindmeets.errors import BadBeads, BadMeeting

KINDS = 3


def meetings(beads):
    """The meetings that can be, in the order of tuples."""
    check_beads(beads)
    return [
        (low, high)
        for low in range(KINDS)
        for high in range(low + 1, KINDS)
        if beads[low] > 0 and beads[high] > 0
    ]


def joined(beads, meeting):
    """The beads behind a meeting whose two beads become one of the third kind."""
    check_beads(beads)
    check_meeting(beads, meeting)
    return behind(beads, meeting, 1)


def turned(beads, meeting):
    """The beads behind a meeting whose two beads become two of the third kind."""
    check_beads(beads)
    check_meeting(beads, meeting)
    return behind(beads, meeting, 2)


def behind(beads, meeting, made):
    """The beads behind a meeting that makes so many of the third kind."""
    return tuple([
        count - 1 if kind in meeting else count + made
        for kind, count in enumerate(beads)
    ])


# The messages below show nothing of what is handed in: Python refuses to write
# out very long numbers, with an error that would hide the one that is due.
def check_beads(beads):
    """Refuse what are no beads."""
    if not are_beads(beads):
        raise BadBeads("beads are a tuple of three counts from 0 on, one bead at least")


def check_meeting(beads, meeting):
    """Refuse what is no meeting, or one that can't be among these beads."""
    if not is_meeting(meeting):
        raise BadMeeting("a meeting is a tuple of two unlike kinds, the lesser first")
    low, high = meeting
    if beads[low] == 0 or beads[high] == 0:
        raise BadMeeting("a meeting needs a bead of each of its two kinds")


def are_beads(value):
    """Whether the value is beads."""
    if not isinstance(value, tuple) or len(value) != KINDS:
        return False
    for count in value:
        if not is_number(count) or count < 0:
            return False
    return max(value) > 0


def is_meeting(value):
    """Whether the value is two unlike kinds, the lesser first."""
    if not isinstance(value, tuple) or len(value) != 2:
        return False
    low, high = value
    return is_kind(low) and is_kind(high) and low < high


def is_kind(value):
    """Whether the value is a kind."""
    return is_number(value) and 0 <= value < KINDS


def is_number(value):
    """Whether the value is a whole number."""
    # To Python, True and False are integers; in the document they are no numbers.
    return isinstance(value, int) and not isinstance(value, bool)
