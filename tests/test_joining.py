"""Tests of kindmeets.joining."""

import copy
import functools
import inspect
import itertools
import unittest

from handed import LONG, MANY, NO_BEADS, after, are_meetings, few_beads, follow, refusal
from kindmeets import joining as module
from kindmeets.errors import BadBeads, TooMany
from kindmeets.joining import fewest_left, last_kinds, to_fewest

# Uneven ones, alike ones, and ones with noughts, of 300 beads and a little fewer.
LARGER = tuple(
    order
    for counts in (
        (100, 100, 100), (299, 1, 0), (0, 150, 150), (1, 1, 298), (298, 2, 0), (297, 3, 0), (296, 2, 2),
        (1, 149, 150), (2, 99, 199), (99, 100, 101), (149, 150, 0), (297, 2, 0), (297, 1, 1), (1, 0, 298),
        (1, 250, 48), (75, 75, 150), (1, 298, 0), (5, 7, 285),
    )
    for order in sorted(set(itertools.permutations(counts)))
)
TOO_MANY = (
    (301, 0, 0), (0, 301, 0), (0, 0, 301), (100, 100, 101), (101, 100, 100), (300, 1, 0), (300, 0, 1), (1, 0, 300),
    (299, 1, 1), (151, 150, 0), (302, 0, 0), (200, 200, 200), (MANY, MANY, MANY), (LONG, 1, 1), (0, 0, LONG),
)


@functools.cache
def ends(counts):
    """All the beads of one kind alone to which joining meetings lead."""
    behind = after(counts, 1).values()
    if not behind:
        return frozenset([counts])
    return frozenset().union(*[ends(beads) for beads in behind])


def kinds_of(counts):
    """The kinds of which there are beads, rising."""
    return [kind for kind in range(3) if counts[kind] > 0]


def very_many():
    """Beads of two kinds at least and of any size, each with the kinds that can be left."""
    for even in (MANY, LONG, 2 ** 63, 2 ** 64):
        odd = even + 1
        yield from (
            ((even, even, even), [0, 1, 2]), ((odd, odd, odd), [0, 1, 2]), ((even, even + 2, 2), [0, 1, 2]),
            ((odd, 1, 3), [0, 1, 2]), ((even, 0, 2), [0, 1, 2]), ((0, even, even), [0, 1, 2]),
            ((2, even, 0), [0, 1, 2]),
            ((odd, even, even), [0]), ((even, odd, odd), [0]), ((odd, 2, 0), [0]), ((even, 1, 1), [0]),
            ((even, odd, even), [1]), ((odd, even, odd), [1]), ((1, 0, odd), [1]), ((even, 1, 0), [1]),
            ((even, even, odd), [2]), ((odd, odd, even), [2]), ((odd, 1, 0), [2]), ((even, 0, 1), [2]),
        )


class Interface(unittest.TestCase):
    def test_names_and_arguments(self):
        for name in ("last_kinds", "fewest_left", "to_fewest"):
            with self.subTest(name):
                function = getattr(module, name)
                self.assertTrue(inspect.isfunction(function))
                self.assertEqual(function.__module__, "kindmeets.joining")
                self.assertEqual(list(inspect.signature(function).parameters), ["beads"])

    def test_arguments_by_name(self):
        self.assertEqual(last_kinds(beads=(1, 1, 0)), [2])
        self.assertEqual(fewest_left(beads=(1, 1, 0)), 1)
        self.assertEqual(to_fewest(beads=(1, 1, 0)), [(0, 1)])


class Last(unittest.TestCase):
    def expect(self, counts, kinds, fewest):
        told = last_kinds(counts)
        self.assertEqual(told, kinds)
        self.assertIs(type(told), list)
        self.assertEqual([type(kind) for kind in told], [int] * len(told))
        left = fewest_left(counts)
        self.assertEqual(left, fewest)
        self.assertIs(type(left), int)

    def test_all_that_joining_leads_to(self):
        for counts in few_beads(7):
            with self.subTest(counts):
                left = ends(counts)
                kinds = sorted({kind for beads in left for kind in kinds_of(beads)})
                self.expect(counts, kinds, min(map(sum, left)))

    def test_ordinary(self):
        self.expect((1, 1, 1), [0, 1, 2], 2)
        self.expect((2, 1, 0), [1], 1)
        self.expect((0, 7, 0), [1], 7)
        self.expect((1, 1, 0), [2], 1)
        self.expect((2, 2, 0), [0, 1, 2], 2)
        self.expect((4, 3, 3), [0], 1)

    def test_one_kind_alone(self):
        for many in (1, 2, 3, 4, 299, 300, 301, 302, MANY, MANY + 1, LONG, LONG + 1):
            self.expect((many, 0, 0), [0], many)
            self.expect((0, many, 0), [1], many)
            self.expect((0, 0, many), [2], many)

    def test_very_many(self):
        for counts, kinds in very_many():
            self.expect(counts, kinds, 2 if len(kinds) == 3 else 1)

    def test_more_beads_than_meetings_are_told_of(self):
        for counts in TOO_MANY:
            self.assertIsNone(refusal(last_kinds, counts))
            self.assertIsNone(refusal(fewest_left, counts))

    def test_the_list_is_new_at_each_call(self):
        for counts in ((1, 1, 1), (2, 1, 0), (0, 7, 0), (MANY, MANY, MANY)):
            before = last_kinds(counts)
            kept = list(before)
            self.assertIsNot(last_kinds(counts), before)
            before.append(7)
            before.reverse()
            self.assertEqual(last_kinds(counts), kept)
            last_kinds(counts).clear()
            self.assertEqual(last_kinds(counts), kept)
            fewest = fewest_left(counts)
            last_kinds(counts).pop()
            self.assertEqual(fewest_left(counts), fewest)


class ToFewest(unittest.TestCase):
    def check(self, counts):
        told = to_fewest(counts)
        self.assertTrue(are_meetings(told))
        left = follow(counts, told, 1)
        kinds = kinds_of(left)
        self.assertEqual(len(kinds), 1)
        self.assertEqual(sum(left), fewest_left(counts))
        self.assertIn(kinds[0], last_kinds(counts))

    def test_each_of_few(self):
        for counts in few_beads(7):
            with self.subTest(counts):
                self.check(counts)
                left = follow(counts, to_fewest(counts), 1)
                self.assertIn(left, ends(counts))
                self.assertEqual(sum(left), min(map(sum, ends(counts))))

    def test_larger(self):
        for counts in LARGER:
            with self.subTest(counts):
                self.check(counts)

    def test_only_one_meeting_can_be(self):
        self.assertEqual(to_fewest((1, 1, 0)), [(0, 1)])
        self.assertEqual(to_fewest((1, 0, 1)), [(0, 2)])
        self.assertEqual(to_fewest((0, 1, 1)), [(1, 2)])
        self.assertEqual(to_fewest((2, 1, 0)), [(0, 1), (0, 2)])

    def test_one_kind_alone(self):
        for counts in ((0, 0, 3), (1, 0, 0), (0, 2, 0), (300, 0, 0), (0, 300, 0), (0, 0, 300)):
            self.assertEqual(to_fewest(counts), [])
            self.assertIs(type(to_fewest(counts)), list)

    def test_the_list_is_new_at_each_call(self):
        for counts in ((1, 1, 1), (5, 3, 2), (0, 0, 3), (100, 100, 100)):
            before = to_fewest(counts)
            kept = list(before)
            self.assertIsNot(to_fewest(counts), before)
            before.append((7, 8))
            before.reverse()
            self.assertEqual(to_fewest(counts), kept)
            to_fewest(counts).clear()
            self.assertEqual(to_fewest(counts), kept)


class Refused(unittest.TestCase):
    def test_no_beads(self):
        for at, wrong in enumerate(NO_BEADS):
            for call in (last_kinds, fewest_left, to_fewest):
                with self.subTest(at=at, call=call.__name__):
                    self.assertEqual(refusal(call, wrong), BadBeads)

    def test_too_many(self):
        for at, counts in enumerate(TOO_MANY):
            with self.subTest(at=at):
                self.assertEqual(refusal(to_fewest, counts), TooMany)

    def test_three_hundred_are_told(self):
        for counts in ((300, 0, 0), (100, 100, 100), (299, 1, 0), (0, 1, 299), (298, 1, 1)):
            self.assertIsNone(refusal(to_fewest, counts))

    def test_bad_beads_goes_before_too_many(self):
        for wrong in (
            (301, -1, 0), (-1, 400, 400), (MANY, MANY, -MANY), (400, 400), (200, 200, 200, 200), (301, True, 1),
            (301, None, 1), ("a", 301, 1), [200, 200, 200], (400, 400, [1]), LONG,
        ):
            self.assertEqual(refusal(to_fewest, wrong), BadBeads)

    def test_what_is_refused_is_not_changed(self):
        for wrong in ([1, 1, 1], [], {0: 1, 1: 1, 2: 1}, {1, 2, 3}, ([1], 1, 1), (1, {}, 1)):
            kept = copy.deepcopy(wrong)
            for call in (last_kinds, fewest_left, to_fewest):
                self.assertEqual(refusal(call, wrong), BadBeads)
                self.assertEqual(wrong, kept)


if __name__ == "__main__":
    unittest.main()
