"""What is told of beads and a kind: by how many turning meetings all can come to it, or that they can't."""

from kindmeets.beads import KINDS, is_number


class Answer:
    """What is told of beads and a kind."""


class Barred(Answer):
    """All beads can't come to the kind."""

    def shows(self, beads, kind):
        """Whether it is so of these beads and this kind."""
        return fewest_turnings(beads, kind) is None


class All(Answer):
    """All beads can come to the kind, by so many meetings at the fewest."""

    def __init__(self, steps):
        self.steps = steps

    def shows(self, beads, kind):
        """Whether it is so of these beads and this kind."""
        # To Python True equals 1; in the document it is no number.
        return is_number(self.steps) and self.steps == fewest_turnings(beads, kind)


def fewest_turnings(beads, kind):
    """By how many turning meetings, the fewest, all beads can come to the kind: None if they can't."""
    low, high = [beads[other] for other in range(KINDS) if other != kind]
    if beads[kind] == 0 and min(low, high) == 0:
        # All are of one other kind alone: no meeting can be.
        return None
    # No meeting changes what the difference leaves by 3, and in the end it is 0.
    if (low - high) % 3 != 0:
        return None
    # Each meeting takes one bead at most off the greater of both.
    return max(low, high)
