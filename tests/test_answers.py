"""Tests of kindmeets.answers."""

import inspect
import unittest

from handed import LONG, MANY, few_beads
from kindmeets import answers as module
from kindmeets.answers import All, Answer, Barred

# On paper: the beads, the kind, and the fewest meetings, None where all can't come to it.
BY_HAND = (
    ((1, 4, 0), 2, 4), ((4, 1, 0), 2, 4), ((1, 1, 0), 2, 1), ((1, 0, 1), 1, 1), ((0, 1, 1), 0, 1),
    ((1, 1, 1), 0, 1), ((1, 1, 1), 1, 1), ((1, 1, 1), 2, 1), ((3, 0, 1), 2, 3), ((5, 5, 5), 1, 5),
    ((2, 2, 0), 2, 2), ((0, 297, 3), 0, 297), ((1, 100, 0), 2, 100), ((7, 1, 4), 0, 4),
    ((3, 0, 0), 0, 0), ((0, 1, 0), 1, 0), ((0, 0, 300), 2, 0), ((0, 301, 0), 1, 0), ((0, 0, MANY), 2, 0),
    ((LONG, 0, 0), 0, 0),
    ((3, 0, 0), 1, None), ((3, 0, 0), 2, None), ((1, 0, 0), 1, None), ((0, 6, 0), 0, None), ((0, 6, 0), 2, None),
    ((0, 0, 9), 0, None), ((0, 0, 9), 1, None), ((0, 0, 1), 0, None), ((0, MANY, 0), 0, None),
    ((0, 0, 3 * MANY), 1, None), ((3 * LONG, 0, 0), 2, None),
    ((13, 15, 17), 0, None), ((13, 15, 17), 1, None), ((13, 15, 17), 2, None), ((1, 2, 0), 2, None),
    ((1, 1, 0), 0, None), ((1, 1, 0), 1, None), ((2, 1, 5), 2, None), ((1, 0, 3), 2, None),
    # 10 ** 30 and 10 ** 6000 leave 1 by 3.
    ((MANY, MANY, 0), 2, MANY), ((MANY, 1, 0), 2, MANY), ((1, MANY + 3, 5), 2, MANY + 3),
    ((7, MANY, 4), 0, MANY), ((2, MANY - 1, MANY + 2), 0, MANY + 2), ((MANY, 0, MANY - 3), 1, MANY),
    ((1, 0, LONG), 1, LONG), ((LONG, 5, LONG + 3), 1, LONG + 3), ((0, 1, LONG), 0, LONG), ((5, LONG, 1), 0, LONG),
    ((MANY, 2, 0), 2, None), ((MANY, MANY + 1, 1), 2, None), ((0, LONG, LONG + 2), 0, None), ((LONG, 4, 0), 1, None),
)


class Interface(unittest.TestCase):
    def test_classes(self):
        for name in ("Answer", "Barred", "All"):
            told = getattr(module, name)
            self.assertTrue(inspect.isclass(told))
            self.assertEqual((told.__module__, told.__name__), ("kindmeets.answers", name))
        self.assertEqual(Barred.__bases__, (Answer,))
        self.assertEqual(All.__bases__, (Answer,))

    def test_each_defines_shows_itself(self):
        for told in (Barred, All):
            self.assertIn("shows", vars(told))
            self.assertEqual(list(inspect.signature(told.shows).parameters), ["self", "beads", "kind"])

    def test_the_field_is_set_as_handed_in(self):
        self.assertEqual(list(inspect.signature(All).parameters), ["steps"])
        self.assertEqual(list(inspect.signature(Barred).parameters), [])
        for steps in (0, 1, -1, 4, MANY, -MANY, LONG):
            self.assertIs(All(steps).steps, steps)
            self.assertEqual(vars(All(steps=steps)), {"steps": steps})

    def test_arguments_by_name(self):
        self.assertIs(All(steps=4).shows(beads=(1, 4, 0), kind=2), True)
        self.assertIs(Barred().shows(beads=(1, 2, 0), kind=2), True)


class Shows(unittest.TestCase):
    def test_barred(self):
        for at, (counts, kind, fewest) in enumerate(BY_HAND):
            with self.subTest(at=at):
                self.assertIs(Barred().shows(counts, kind), fewest is None)

    def test_the_fewest(self):
        for at, (counts, kind, fewest) in enumerate(BY_HAND):
            if fewest is not None:
                with self.subTest(at=at):
                    self.assertIs(All(fewest).shows(counts, kind), True)

    def test_any_other_number(self):
        for at, (counts, kind, fewest) in enumerate(BY_HAND):
            right = 0 if fewest is None else fewest
            near = (right - 1, right + 1, -right, right + 3, right - 3, 2 * right, sum(counts), min(counts))
            for steps in near + (0, 1, -1, 2, 3, MANY, -MANY, LONG, -LONG) + counts:
                with self.subTest(at=at):
                    self.assertIs(All(steps).shows(counts, kind), steps == fewest)

    def test_truths_are_no_numbers(self):
        self.assertIs(All(1).shows((1, 1, 0), 2), True)
        self.assertIs(All(True).shows((1, 1, 0), 2), False)
        self.assertIs(All(0).shows((3, 0, 0), 0), True)
        self.assertIs(All(False).shows((3, 0, 0), 0), False)

    def test_just_one_answer_of_each(self):
        for counts in few_beads(4):
            for kind in range(3):
                with self.subTest(beads=counts, kind=kind):
                    shown = [All(steps).shows(counts, kind) for steps in range(-1, 14)]
                    self.assertEqual(shown.count(True) + Barred().shows(counts, kind), 1)

    def test_by_the_field_as_it_stands_then(self):
        told = All(3)
        self.assertIs(told.shows((1, 4, 0), 2), False)
        told.steps = 4
        self.assertIs(told.shows((1, 4, 0), 2), True)
        self.assertIs(told.shows((1, 5, 0), 2), False)
        self.assertIs(told.shows((1, 4, 0), 2), True)
        told.steps = MANY
        self.assertIs(told.shows((1, 4, 0), 2), False)
        self.assertIs(told.shows((1, MANY, 0), 2), True)
        told.steps = -4
        self.assertIs(told.shows((1, 4, 0), 2), False)
        told.steps = 0
        self.assertIs(told.shows((3, 0, 0), 0), True)

    def test_one_object_tells_nothing_of_another(self):
        first, second = All(4), All(1)
        self.assertIs(first.shows((1, 4, 0), 2), True)
        self.assertIs(second.shows((1, 4, 0), 2), False)
        self.assertIs(second.shows((1, 1, 0), 2), True)
        self.assertEqual((first.steps, second.steps), (4, 1))


if __name__ == "__main__":
    unittest.main()
