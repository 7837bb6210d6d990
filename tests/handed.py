"""What the tests hand in, and what they ask of it."""

import itertools

from kindmeets.errors import BeadError

MANY = 10 ** 30
# Longer than the numbers that Python is willing to write out as text.
LONG = 10 ** 6000

NO_TUPLES = (
    None, True, False, 0, 1, 3, -1, MANY, LONG, "", "111", "01", b"111", [], [1, 1, 1], [0, 1],
    {}, {0: 1, 1: 1, 2: 1}, {0: 1, 1: 2}, {1, 2, 3}, frozenset((0, 1)), range(3), range(2),
    iter((1, 1, 1)), object(), len, int,
)
# What is no number, so neither a count nor a kind.
NO_NUMBERS = (
    True, False, None, "", "1", "text", b"1", [], [1], (), (1,), (1, 1, 1), {}, {1}, object(), int,
)

NO_BEADS = NO_TUPLES + (
    (), (1,), (1, 1), (0, 1), (1, 1, 1, 1), (0, 0, 0, 1), (MANY,) * 4, ((1, 1, 1),),
    (0, 0, 0),
    (-1, 1, 1), (1, -1, 1), (1, 1, -1), (-1, -1, -1), (0, 0, -1), (5, -MANY, 5), (5, 5, -LONG),
) + tuple(
    (5,) * place + (wrong,) + (5,) * (2 - place)
    for wrong in NO_NUMBERS for place in range(3)
)

NO_MEETINGS = NO_TUPLES + (
    (), (0,), (1,), (0, 1, 2), (0, 1, 1), (0, 0, 1, 1), ((0, 1),),
    (0, 0), (1, 1), (2, 2), (1, 0), (2, 0), (2, 1),
    (-1, 0), (-1, 1), (-1, 2), (-2, 2), (-3, 1), (-2, -1), (0, -1), (1, -1), (-MANY, 1),
    (0, 3), (1, 3), (2, 3), (3, 4), (3, 3), (3, 0), (0, MANY), (1, LONG), (LONG, LONG + 1),
) + tuple((wrong, 2) for wrong in NO_NUMBERS) + tuple((0, wrong) for wrong in NO_NUMBERS)

NO_KINDS = NO_NUMBERS + (-1, -2, -3, 3, 4, 5, MANY, -MANY, LONG, -LONG, (0,), (0, 1), [0], [2], {0: 1}, "0", b"0")


def refusal(call, *handed):
    """The very class of the refusal, None if there is none; other errors are not caught."""
    try:
        call(*handed)
    except BeadError as error:
        return error.__class__
    return None


def few_beads(most):
    """All beads with at most so many of each kind."""
    return [counts for counts in itertools.product(range(most + 1), repeat=3) if counts != (0, 0, 0)]


# The document's two ways, written out once more, so that the package is held
# against its words and not against itself.
def after(counts, made):
    """Each meeting that can be, with the beads behind it, so many made of the third kind."""
    told = {}
    for low, high, third in ((0, 1, 2), (0, 2, 1), (1, 2, 0)):
        if counts[low] and counts[high]:
            behind = [count - 1 for count in counts]
            behind[third] = counts[third] + made
            told[low, high] = tuple(behind)
    return told


def follow(counts, told, made):
    """The beads behind the meetings that are told; KeyError if one can't be when its turn comes."""
    for meeting in told:
        counts = after(counts, made)[meeting]
    return counts


def are_meetings(told):
    """Whether it is a list of tuples of two whole numbers, none of them True or False."""
    return type(told) is list and all(
        type(meeting) is tuple and [type(kind) for kind in meeting] == [int, int] for meeting in told
    )
