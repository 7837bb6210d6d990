"""Tests of kindmeets.beads."""

import copy
import inspect
import unittest

from handed import LONG, MANY, NO_BEADS, NO_MEETINGS, few_beads, refusal
from kindmeets import beads as module
from kindmeets.beads import joined, meetings, turned
from kindmeets.errors import BadBeads, BadMeeting


class Interface(unittest.TestCase):
    def test_names_and_arguments(self):
        for name, arguments in (
            ("joined", ["beads", "meeting"]), ("turned", ["beads", "meeting"]), ("meetings", ["beads"]),
        ):
            with self.subTest(name):
                function = getattr(module, name)
                self.assertTrue(inspect.isfunction(function))
                self.assertEqual(function.__module__, "kindmeets.beads")
                self.assertEqual(list(inspect.signature(function).parameters), arguments)

    def test_arguments_by_name(self):
        self.assertEqual(meetings(beads=(1, 1, 0)), [(0, 1)])
        self.assertEqual(joined(beads=(1, 1, 0), meeting=(0, 1)), (0, 0, 1))
        self.assertEqual(turned(beads=(1, 1, 0), meeting=(0, 1)), (0, 0, 2))


class Meetings(unittest.TestCase):
    def test_all_three_kinds(self):
        self.assertEqual(meetings((1, 1, 1)), [(0, 1), (0, 2), (1, 2)])
        self.assertEqual(meetings((3, 1, 20)), [(0, 1), (0, 2), (1, 2)])

    def test_two_kinds(self):
        self.assertEqual(meetings((1, 1, 0)), [(0, 1)])
        self.assertEqual(meetings((4, 0, 1)), [(0, 2)])
        self.assertEqual(meetings((0, 2, 7)), [(1, 2)])

    def test_one_kind_alone(self):
        for counts in ((2, 0, 0), (0, 9, 0), (0, 0, 5), (MANY, 0, 0), (0, 0, LONG)):
            self.assertEqual(meetings(counts), [])

    def test_a_single_bead(self):
        for counts in ((1, 0, 0), (0, 1, 0), (0, 0, 1)):
            self.assertEqual(meetings(counts), [])

    def test_very_many(self):
        for many in (2 ** 31, 2 ** 63, 2 ** 64, MANY, LONG):
            self.assertEqual(meetings((many, many + 1, many + 2)), [(0, 1), (0, 2), (1, 2)])
            self.assertEqual(meetings((many, 1, 0)), [(0, 1)])
            self.assertEqual(meetings((1, 0, many)), [(0, 2)])
            self.assertEqual(meetings((0, many, many)), [(1, 2)])

    def test_each_of_few(self):
        pairs = [(0, 1), (0, 2), (1, 2)]
        for counts in few_beads(3):
            with self.subTest(counts):
                there = [pair for pair in pairs if counts[pair[0]] and counts[pair[1]]]
                self.assertEqual(meetings(counts), there)

    def test_a_list_of_tuples_of_numbers(self):
        told = meetings((2, 3, 4))
        self.assertIs(type(told), list)
        for pair in told:
            self.assertIs(type(pair), tuple)
            self.assertEqual([type(kind) for kind in pair], [int, int])

    def test_the_list_is_new_at_each_call(self):
        for counts in ((1, 1, 1), (1, 0, 1), (5, 0, 0)):
            before = meetings(counts)
            kept = list(before)
            self.assertIsNot(meetings(counts), before)
            before.append((7, 8))
            before.reverse()
            self.assertEqual(meetings(counts), kept)
            meetings(counts).clear()
            self.assertEqual(meetings(counts), kept)


class Behind:
    """What joined and turned have in common; the classes below name the one that is tested."""

    def expect(self, counts, meeting, wanted):
        told = self.way(counts, meeting)
        self.assertEqual(told, wanted)
        self.assertIs(type(told), tuple)
        self.assertEqual([type(count) for count in told], [int, int, int])

    def test_each_of_few(self):
        made = self.made
        for a, b, c in few_beads(3):
            behind = {(0, 1): (a - 1, b - 1, c + made), (0, 2): (a - 1, b + made, c - 1),
                      (1, 2): (a + made, b - 1, c - 1)}
            for meeting, wanted in behind.items():
                with self.subTest(beads=(a, b, c), meeting=meeting):
                    if min(wanted) < 0:
                        self.assertEqual(refusal(self.way, (a, b, c), meeting), BadMeeting)
                    else:
                        self.expect((a, b, c), meeting, wanted)

    def test_very_many(self):
        made = self.made
        for many in (2 ** 63, MANY, LONG):
            self.expect((many, many, many), (0, 1), (many - 1, many - 1, many + made))
            self.expect((many, many, many), (0, 2), (many - 1, many + made, many - 1))
            self.expect((many, many, many), (1, 2), (many + made, many - 1, many - 1))
            self.expect((many, 1, 0), (0, 1), (many - 1, 0, made))
            self.expect((1, many, 1), (0, 2), (0, many + made, 0))

    def test_asked_again_the_same_is_told(self):
        counts, meeting = (2, 3, 4), (0, 2)
        first = self.way(counts, meeting)
        self.assertEqual((counts, meeting), ((2, 3, 4), (0, 2)))
        self.way((9, 9, 9), (1, 2))
        self.assertEqual(self.way(counts, meeting), first)

    def test_no_beads(self):
        for at, wrong in enumerate(NO_BEADS):
            for meeting in ((0, 1), (0, 2), (1, 2)):
                with self.subTest(at=at, meeting=meeting):
                    self.assertEqual(refusal(self.way, wrong, meeting), BadBeads)

    def test_no_meeting(self):
        for at, wrong in enumerate(NO_MEETINGS):
            for counts in ((1, 1, 1), (5, 6, 7), (MANY, LONG, 1), (1, 0, 0)):
                with self.subTest(at=at, many=len(bin(max(counts)))):
                    self.assertEqual(refusal(self.way, counts, wrong), BadMeeting)

    def test_a_meeting_without_its_beads(self):
        for counts, meeting in (
            ((0, 1, 1), (0, 1)), ((1, 0, 1), (0, 1)), ((0, 0, 1), (0, 1)),
            ((0, 1, 1), (0, 2)), ((1, 1, 0), (0, 2)), ((0, 1, 0), (0, 2)),
            ((1, 0, 1), (1, 2)), ((1, 1, 0), (1, 2)), ((1, 0, 0), (1, 2)),
            ((MANY, 0, MANY), (0, 1)), ((0, LONG, LONG), (0, 2)), ((LONG, LONG, 0), (1, 2)),
        ):
            with self.subTest(there=[count > 0 for count in counts], meeting=meeting):
                self.assertEqual(refusal(self.way, counts, meeting), BadMeeting)

    def test_bad_beads_goes_first(self):
        for at, wrong in enumerate(NO_BEADS):
            for behind, no_meeting in enumerate(NO_MEETINGS):
                if refusal(self.way, wrong, no_meeting) is not BadBeads:
                    self.fail("no beads {} beside no meeting {}".format(at, behind))

    def test_what_is_refused_is_not_changed(self):
        for wrong in ([1, 1, 1], {0: 1, 1: 1, 2: 1}, {1, 2, 3}, ([1], 1, 1), ({}, 1, 1)):
            kept = copy.deepcopy(wrong)
            self.assertEqual(refusal(self.way, wrong, (0, 1)), BadBeads)
            self.assertEqual(wrong, kept)
        for wrong in ([0, 1], {0: 1, 1: 2}, {0, 1}, ([0], 1), (0, [1])):
            kept = copy.deepcopy(wrong)
            self.assertEqual(refusal(self.way, (1, 1, 1), wrong), BadMeeting)
            self.assertEqual(wrong, kept)


class Joined(Behind, unittest.TestCase):
    made = 1

    def way(self, counts, meeting):
        return joined(counts, meeting)

    def test_all_three_meetings(self):
        self.expect((1, 1, 0), (0, 1), (0, 0, 1))
        self.expect((3, 2, 5), (0, 1), (2, 1, 6))
        self.expect((3, 2, 5), (0, 2), (2, 3, 4))
        self.expect((3, 2, 5), (1, 2), (4, 1, 4))


class Turned(Behind, unittest.TestCase):
    made = 2

    def way(self, counts, meeting):
        return turned(counts, meeting)

    def test_all_three_meetings(self):
        self.expect((1, 1, 0), (0, 1), (0, 0, 2))
        self.expect((3, 2, 5), (0, 1), (2, 1, 7))
        self.expect((3, 2, 5), (0, 2), (2, 4, 4))
        self.expect((3, 2, 5), (1, 2), (5, 1, 4))


class NoBeads(unittest.TestCase):
    def test_meetings_refuses_what_are_no_beads(self):
        for at, wrong in enumerate(NO_BEADS):
            with self.subTest(at=at):
                self.assertEqual(refusal(meetings, wrong), BadBeads)

    def test_what_is_refused_is_not_changed(self):
        wrong = [1, 1, 1]
        self.assertEqual(refusal(meetings, wrong), BadBeads)
        self.assertEqual(wrong, [1, 1, 1])


if __name__ == "__main__":
    unittest.main()
