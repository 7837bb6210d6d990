"""Beads turned, meeting by meeting, till all are of a kind that is asked for."""

from kindmeets.answers import All, Barred, fewest_turnings
from kindmeets.beads import KINDS, check_beads, is_kind, turned
from kindmeets.errors import BadKind
from kindmeets.limit import check_few


def all_of(beads, kind):
    """By how many meetings, the fewest, all beads can come to the kind, or that they can't."""
    check_beads(beads)
    check_kind(kind)
    steps = fewest_turnings(beads, kind)
    if steps is None:
        return Barred()
    return All(steps)


def to_kind(beads, kind):
    """The fewest meetings, one behind the other, by which all come to the kind: None if they can't."""
    check_beads(beads)
    check_kind(kind)
    check_few(beads)
    if fewest_turnings(beads, kind) is None:
        return None
    told = []
    left = beads
    while left[kind] < sum(left):
        meeting = toward(left, kind)
        told.append(meeting)
        left = turned(left, meeting)
    return told


# Each meeting takes one bead off the greater of both others, so there are as many
# meetings as it has beads. Where the lesser is gone, the greater has three at least,
# and the kind is there: there were two kinds at least, or the two others met before.
# Behind that meeting the lesser has two, no more than the greater, and they can meet.
def toward(beads, kind):
    """The first of the fewest meetings by which all come to the kind."""
    low, high = [other for other in range(KINDS) if other != kind]
    if beads[low] > 0 and beads[high] > 0:
        return (low, high)
    rest = low if beads[low] > 0 else high
    return (min(rest, kind), max(rest, kind))


def check_kind(kind):
    """Refuse what is no kind."""
    if not is_kind(kind):
        raise BadKind("a kind is 0, 1 or 2")
