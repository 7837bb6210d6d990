"""Of how many beads meetings are told, one behind the other."""

from kindmeets.errors import TooMany

MOST = 300


def check_few(beads):
    """Refuse more beads than meetings are told of."""
    if sum(beads) > MOST:
        raise TooMany("meetings are told of at most 300 beads")
