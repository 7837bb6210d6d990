"""Tests of kindmeets.turning."""

import copy
import inspect
import itertools
import unittest

from handed import LONG, MANY, NO_BEADS, NO_KINDS, after, are_meetings, few_beads, follow, refusal
from kindmeets import turning as module
from kindmeets.answers import All, Barred
from kindmeets.errors import BadBeads, BadKind, TooMany
from kindmeets.turning import all_of, to_kind

# How many there are of both other kinds and of the kind itself: 300 beads or fewer.
LARGER = (
    (1, 100, 0), (297, 3, 0), (3, 297, 0), (150, 150, 0), (149, 149, 2), (298, 1, 0), (1, 298, 0), (1, 1, 298),
    (297, 0, 1), (297, 0, 3), (0, 297, 3), (299, 0, 1), (0, 299, 1), (3, 0, 1), (0, 3, 1), (3, 0, 297), (0, 297, 1),
    (100, 100, 100), (99, 0, 99), (99, 0, 201), (4, 1, 0), (294, 3, 3), (294, 6, 0), (292, 4, 4), (200, 98, 2),
    (0, 0, 300), (0, 0, 1), (300, 0, 0), (299, 1, 0), (200, 99, 1), (1, 2, 297), (150, 149, 1),
)
TOO_MANY = (
    (301, 0, 0), (0, 301, 0), (0, 0, 301), (100, 100, 101), (101, 100, 100), (300, 1, 0), (1, 300, 0), (0, 1, 300),
    (299, 1, 1), (200, 200, 200), (151, 150, 0), (MANY, MANY, MANY), (LONG, 1, 1), (0, 0, LONG), (0, MANY, 0),
)


def placed(both, own, kind):
    """Beads with so many of both other kinds and of the kind itself."""
    counts = list(both)
    counts.insert(kind, own)
    return tuple(counts)


def larger():
    return [
        (placed((low, high), own, kind), kind) for (low, high, own), kind in itertools.product(LARGER, range(3))
    ]


def fewest_to(counts):
    """The fewest turning meetings to all the beads that these lead to."""
    found = {counts: 0}
    waiting = [counts]
    for beads in waiting:
        for behind in after(beads, 2).values():
            if behind not in found:
                found[behind] = found[beads] + 1
                waiting.append(behind)
    return found


class Interface(unittest.TestCase):
    def test_names_and_arguments(self):
        for name in ("all_of", "to_kind"):
            with self.subTest(name):
                function = getattr(module, name)
                self.assertTrue(inspect.isfunction(function))
                self.assertEqual(function.__module__, "kindmeets.turning")
                self.assertEqual(list(inspect.signature(function).parameters), ["beads", "kind"])

    def test_arguments_by_name(self):
        self.assertEqual(all_of(kind=2, beads=(1, 4, 0)).steps, 4)
        self.assertEqual(to_kind(kind=2, beads=(1, 1, 0)), [(0, 1)])


class AllOf(unittest.TestCase):
    def expect(self, counts, kind, fewest):
        told = all_of(counts, kind)
        if fewest is None:
            self.assertIs(type(told), Barred)
        else:
            self.assertIs(type(told), All)
            self.assertEqual(told.steps, fewest)
            self.assertIs(type(told.steps), int)
        self.assertIs(told.shows(counts, kind), True)

    def test_all_that_turning_leads_to(self):
        for counts in few_beads(6):
            found = fewest_to(counts)
            for kind in range(3):
                with self.subTest(beads=counts, kind=kind):
                    self.expect(counts, kind, found.get(placed((0, 0), sum(counts), kind)))

    def test_ordinary(self):
        self.expect((1, 4, 0), 2, 4)
        self.expect((3, 0, 0), 0, 0)
        self.expect((1, 1, 0), 2, 1)
        self.expect((7, 4, 1), 0, 4)
        self.expect((7, 4, 1), 1, 7)
        self.expect((7, 4, 1), 2, 7)
        self.expect((3, 0, 0), 1, None)
        self.expect((13, 15, 17), 0, None)
        self.expect((1, 2, 0), 2, None)

    def test_one_kind_alone(self):
        for many in (1, 2, 3, 6, 300, 301, 3 * MANY, MANY, LONG, 3 * LONG):
            for kind, asked in itertools.product(range(3), repeat=2):
                self.expect(placed((0, 0), many, kind), asked, 0 if kind == asked else None)

    def test_very_many(self):
        for many in (3 * MANY, 3 * LONG, 3 * 2 ** 64):
            for kind in range(3):
                for own in (0, 1, 2, many, many + 1):
                    self.expect(placed((many, many), own, kind), kind, many)
                    self.expect(placed((many, 3), own, kind), kind, many)
                    self.expect(placed((2, many + 5), own, kind), kind, many + 5)
                    self.expect(placed((many + 1, many + 4), own, kind), kind, many + 4)
                    self.expect(placed((many, many + 1), own, kind), kind, None)
                    self.expect(placed((many + 2, many), own, kind), kind, None)
                    self.expect(placed((many, 1), own, kind), kind, None)
                    self.expect(placed((2, many + 4), own, kind), kind, None)
                self.expect(placed((0, many), 1, kind), kind, many)
                self.expect(placed((many, 0), many, kind), kind, many)
                self.expect(placed((many + 1, 0), many, kind), kind, None)

    def test_the_answer_is_new_at_each_call(self):
        for counts, kind in (((1, 4, 0), 2), ((3, 0, 0), 0), ((3, 0, 0), 1)):
            self.assertIsNot(all_of(counts, kind), all_of(counts, kind))
        told = all_of((1, 4, 0), 2)
        told.steps = 9
        self.assertIs(told.shows((1, 4, 0), 2), False)
        self.expect((1, 4, 0), 2, 4)


class ToKind(unittest.TestCase):
    def check(self, counts, kind):
        told = to_kind(counts, kind)
        answer = all_of(counts, kind)
        if isinstance(answer, Barred):
            self.assertIsNone(told)
        else:
            self.assertTrue(are_meetings(told))
            self.assertEqual(len(told), answer.steps)
            self.assertEqual(follow(counts, told, 2), placed((0, 0), sum(counts), kind))
        return told

    def test_each_of_few(self):
        for counts in few_beads(6):
            found = fewest_to(counts)
            for kind in range(3):
                with self.subTest(beads=counts, kind=kind):
                    told = self.check(counts, kind)
                    fewest = found.get(placed((0, 0), sum(counts), kind))
                    self.assertEqual(None if told is None else len(told), fewest)

    def test_larger(self):
        for counts, kind in larger():
            with self.subTest(beads=counts, kind=kind):
                self.check(counts, kind)

    def test_the_promised_number_of_larger(self):
        self.assertEqual(len(to_kind((1, 100, 0), 2)), 100)
        self.assertEqual(len(to_kind((0, 297, 3), 0)), 297)
        self.assertEqual(len(to_kind((3, 0, 1), 2)), 3)
        self.assertEqual(len(to_kind((100, 100, 100), 1)), 100)
        self.assertEqual(len(to_kind((1, 1, 298), 2)), 1)

    def test_all_of_the_kind(self):
        for kind in range(3):
            for many in (1, 2, 3, 300):
                told = to_kind(placed((0, 0), many, kind), kind)
                self.assertEqual(told, [])
                self.assertIs(type(told), list)

    def test_all_can_not_come_to_it(self):
        for counts, kind in (
            ((3, 0, 0), 1), ((3, 0, 0), 2), ((13, 15, 17), 0), ((13, 15, 17), 1), ((13, 15, 17), 2), ((1, 2, 0), 2),
            ((300, 0, 0), 1), ((0, 300, 0), 0), ((0, 0, 300), 1), ((1, 0, 0), 2), ((100, 99, 101), 0),
        ):
            self.assertIsNone(to_kind(counts, kind))

    def test_only_one_meeting_can_be(self):
        self.assertEqual(to_kind((1, 1, 0), 2), [(0, 1)])
        self.assertEqual(to_kind((1, 0, 1), 1), [(0, 2)])
        self.assertEqual(to_kind((0, 1, 1), 0), [(1, 2)])

    def test_the_list_is_new_at_each_call(self):
        for counts, kind in (((1, 4, 0), 2), ((5, 5, 5), 1), ((0, 0, 3), 2), ((1, 100, 0), 2)):
            before = to_kind(counts, kind)
            kept = list(before)
            self.assertIsNot(to_kind(counts, kind), before)
            before.append((7, 8))
            before.reverse()
            self.assertEqual(to_kind(counts, kind), kept)
            to_kind(counts, kind).clear()
            self.assertEqual(to_kind(counts, kind), kept)


class Refused(unittest.TestCase):
    def test_no_beads(self):
        for at, wrong in enumerate(NO_BEADS):
            for kind in range(3):
                with self.subTest(at=at, kind=kind):
                    self.assertEqual(refusal(all_of, wrong, kind), BadBeads)
                    self.assertEqual(refusal(to_kind, wrong, kind), BadBeads)

    def test_no_kind(self):
        for at, wrong in enumerate(NO_KINDS):
            for counts in ((1, 1, 1), (3, 0, 0), (13, 15, 17), (300, 0, 0)):
                with self.subTest(at=at, beads=counts):
                    self.assertEqual(refusal(all_of, counts, wrong), BadKind)
                    self.assertEqual(refusal(to_kind, counts, wrong), BadKind)

    def test_too_many(self):
        for at, counts in enumerate(TOO_MANY):
            for kind in range(3):
                with self.subTest(at=at, kind=kind):
                    self.assertEqual(refusal(to_kind, counts, kind), TooMany)
                    self.assertIsNone(refusal(all_of, counts, kind))

    def test_three_hundred_are_told(self):
        for counts in ((300, 0, 0), (100, 100, 100), (299, 1, 0), (0, 297, 3), (99, 100, 101)):
            for kind in range(3):
                self.assertIsNone(refusal(to_kind, counts, kind))

    def test_bad_beads_goes_first(self):
        self.assertEqual(refusal(to_kind, (0, 0, 0), 3), BadBeads)
        for at, wrong in enumerate(NO_BEADS):
            for behind, no_kind in enumerate(NO_KINDS):
                for call in (all_of, to_kind):
                    if refusal(call, wrong, no_kind) is not BadBeads:
                        self.fail("no beads {} beside no kind {}".format(at, behind))
        for wrong in ((301, -1, 0), (400, 400), (301, True, 1), (MANY, MANY, None), [200, 200, 200]):
            for kind in (0, 3, None):
                self.assertEqual(refusal(to_kind, wrong, kind), BadBeads)

    def test_bad_kind_goes_before_too_many(self):
        self.assertEqual(refusal(to_kind, (200, 200, 200), 3), BadKind)
        for at, wrong in enumerate(NO_KINDS):
            for counts in TOO_MANY:
                with self.subTest(at=at):
                    self.assertEqual(refusal(to_kind, counts, wrong), BadKind)
                    self.assertEqual(refusal(all_of, counts, wrong), BadKind)

    def test_what_is_refused_is_not_changed(self):
        for call in (all_of, to_kind):
            for wrong in ([1, 1, 1], {0: 1, 1: 1, 2: 1}, {1, 2, 3}, ([1], 1, 1), (1, {}, 1)):
                kept = copy.deepcopy(wrong)
                self.assertEqual(refusal(call, wrong, 0), BadBeads)
                self.assertEqual(wrong, kept)
            for wrong in ([0], {0: 1}, {1}, ([1],)):
                kept = copy.deepcopy(wrong)
                self.assertEqual(refusal(call, (1, 1, 1), wrong), BadKind)
                self.assertEqual(wrong, kept)


if __name__ == "__main__":
    unittest.main()
