"""Beads joined, meeting by meeting, till all that are left are of one kind."""

from kindmeets.beads import KINDS, check_beads, joined, meetings
from kindmeets.limit import check_few


def last_kinds(beads):
    """The kinds that can be left, rising."""
    check_beads(beads)
    if not meetings(beads):
        return [kind for kind in range(KINDS) if beads[kind] > 0]
    # Each meeting turns each count from even to odd or back, and in the end both
    # other counts are 0: so they are alike, and their sum is even, from the start.
    return [kind for kind in range(KINDS) if (sum(beads) - beads[kind]) % 2 == 0]


def fewest_left(beads):
    """How few beads can be left."""
    check_beads(beads)
    if not meetings(beads):
        return sum(beads)
    if len(last_kinds(beads)) == 1:
        return 1
    return 2


def to_fewest(beads):
    """Meetings, one behind the other, that leave as few beads as can be."""
    check_beads(beads)
    check_few(beads)
    told = []
    left = beads
    while meetings(left):
        meeting = of_the_most(left)
        told.append(meeting)
        left = joined(left, meeting)
    return told


# Where there are two beads at least of the kind that has the most, one of them stays
# and one of the third kind comes. So one kind alone is left only behind a meeting of
# (1, 1, 0) or (1, 1, 1), in some order: one bead or two, which are as few as can be.
def of_the_most(beads):
    """The meeting of the two kinds of which there are the most beads."""
    least = beads.index(min(beads))
    low, high = [kind for kind in range(KINDS) if kind != least]
    return (low, high)
