"""Points [11] and [12]: what is a box, tight boxes, and the boxes behind looks."""

import unittest

from numbergaps.boxes import behind, is_settled, tight
from numbergaps.errors import NoBox, NotThere, NoWorld
from tests.helpers import NO_BOXES, SIXTY
from tests.trial import boxes, looks_of, split, tight_of, worlds_of


class BoxTest(unittest.TestCase):
    def refused(self, error, ask, *told):
        with self.assertRaises(error) as caught:
            ask(*told)
        self.assertIs(type(caught.exception), error, told)

    def no_box(self, error, box, look=(0, 1)):
        """Each question of this box is refused with just this class."""
        self.refused(error, tight, box)
        self.refused(error, is_settled, box)
        self.refused(error, behind, box, look)


class Boxes(BoxTest):
    """[11]"""

    def test_tight_without_a_total(self):
        for lows, highs in [((3,), (5,)), ((0, 7), (7, 7)), ((1, 0, 2), (1, 7, 4)), ((0,) * 3, (7,) * 3)]:
            self.assertEqual(tight((lows, highs, None)), (lows, highs, None))

    def test_tight_with_a_total(self):
        self.assertEqual(tight(((2,), (6,), 4)), ((4,), (4,), 4))
        self.assertEqual(tight(((0, 0), (3, 5), 7)), ((2, 4), (3, 5), 7))
        self.assertEqual(tight(((1, 2), (7, 7), 5)), ((1, 2), (3, 4), 5))
        self.assertEqual(tight(((0, 0, 0), (7, 7, 7), 3)), ((0, 0, 0), (3, 3, 3), 3))
        self.assertEqual(tight(((0, 0, 0), (7, 7, 7), 18)), ((4, 4, 4), (7, 7, 7), 18))
        self.assertEqual(tight(((0, 0, 0), (1, 2, 7), 8)), ((0, 0, 5), (1, 2, 7), 8))
        self.assertEqual(tight(((0, 0, 0), (7, 7, 7), 10)), ((0, 0, 0), (7, 7, 7), 10))

    def test_a_tight_box_is_a_tuple_with_the_same_total(self):
        for total in (None, 4):
            box = ((0, 1), (3, 3), total)
            told = tight(box)
            self.assertIs(type(told), tuple)
            self.assertEqual([type(part) for part in told[:2]], [tuple, tuple])
            self.assertEqual(told[2], total)
            self.assertEqual(tight(told), told)

    def test_settled(self):
        for box in [((0,), (0,), None), ((7, 3), (7, 3), None), ((2,), (6,), 4), ((0, 0), (3, 5), 8),
                    ((0, 0), (3, 5), 0), ((1, 1, 1), (7, 7, 7), 3), ((1, 1, 1), (7, 7, 7), 21)]:
            self.assertIs(is_settled(box), True, box)
        for box in [((0,), (1,), None), ((7, 2), (7, 3), None), ((0, 0), (3, 5), 7), ((0, 0), (3, 5), 1),
                    ((1, 1, 1), (7, 7, 7), 4), ((0, 0, 0), (0, 0, 1), None)]:
            self.assertIs(is_settled(box), False, box)

    def test_as_by_trial(self):
        small = [*boxes(1, 7), *boxes(2, 3), *boxes(3, 2)]
        for lows, highs in small:
            for total in [None, *range(-1, sum(highs) + 2)]:
                box = (lows, highs, total)
                worlds = worlds_of(box)
                if not worlds:
                    self.no_box(NoWorld, box)
                    continue
                self.assertEqual(tight(box), tight_of(worlds, total))
                self.assertIs(is_settled(box), len(worlds) == 1)

    def test_no_box(self):
        for box in NO_BOXES:
            with self.subTest(box=box):
                self.no_box(NoBox, box)

    def test_the_limits_of_boxes(self):
        for box in [((0,), (0,), 0), ((7,), (7,), None), ((0,), (7,), None), ((0,) * 3, (7,) * 3, None),
                    ((0,) * 3, (0,) * 3, 0), ((7,) * 3, (7,) * 3, 21)]:
            self.assertEqual(tight(box), box)

    def test_no_world(self):
        for lows, highs in [((2,), (5,)), ((1, 1), (3, 2)), ((0, 2, 0), (7, 7, 7))]:
            for total in (sum(lows) - 1, sum(highs) + 1, -1, -SIXTY, SIXTY):
                self.no_box(NoWorld, (lows, highs, total))
            for total in (sum(lows), sum(highs)):
                self.assertIs(is_settled((lows, highs, total)), True)

    def test_no_box_goes_ahead_of_no_world(self):
        for box in NO_BOXES:
            for total in (-1, SIXTY):
                with self.subTest(box=box):
                    self.no_box(NoBox, (box[0], box[1], total), (5, 9))


class Looks(BoxTest):
    """[12]"""

    def test_behind_yes_and_no(self):
        self.assertEqual(behind(((1,), (6,), None), (0, 4)), (((4,), (6,), None), ((1,), (3,), None)))
        self.assertEqual(behind(((0, 2), (3, 5), None), (1, 5)), (
            ((0, 5), (3, 5), None), ((0, 2), (3, 4), None)))
        self.assertEqual(behind(((0, 0, 0), (7, 7, 7), None), (2, 1)), (
            ((0, 0, 1), (7, 7, 7), None), ((0, 0, 0), (7, 7, 0), None)))

    def test_the_boxes_behind_are_tight_again(self):
        self.assertEqual(behind(((0, 0), (3, 3), 3), (0, 2)), (((2, 0), (3, 1), 3), ((0, 2), (1, 3), 3)))
        self.assertEqual(behind(((0, 0, 0), (7, 7, 7), 4), (1, 3)), (
            ((0, 3, 0), (1, 4, 1), 4), ((0, 0, 0), (4, 2, 4), 4)))

    def test_a_box_that_is_not_tight(self):
        self.assertEqual(behind(((0, 0), (7, 2), 4), (0, 3)), (((3, 0), (4, 1), 4), ((2, 2), (2, 2), 4)))
        for many in (0, 1, 2, 5, 6, 7):
            self.refused(NotThere, behind, ((0, 0), (7, 2), 4), (0, many))

    def test_about_the_tight_low_and_high(self):
        box = ((2, 0), (5, 7), None)
        for many in (3, 4, 5):
            self.assertEqual(behind(box, (0, many)), (((many, 0), (5, 7), None), ((2, 0), (many - 1, 7), None)))
        for many in (2, 1, 0, -1, 6, 7, 8, SIXTY, -SIXTY):
            self.refused(NotThere, behind, box, (0, many))

    def test_places_that_the_box_has_not(self):
        for lows, highs in [((0,), (7,)), ((0, 0), (7, 7)), ((0, 0, 0), (7, 7, 7))]:
            for k in (-1, -2, -3, -SIXTY, len(lows), len(lows) + 1, SIXTY):
                for many in (-1, 0, 1, 4, 7, 8):
                    self.refused(NotThere, behind, (lows, highs, None), (k, many))

    def test_no_look_at_a_settled_box(self):
        for box in [((3,), (3,), None), ((0, 0), (7, 7), 14), ((1, 1, 1), (1, 1, 1), 3)]:
            for k in range(-1, 4):
                for many in range(-1, 9):
                    self.refused(NotThere, behind, box, (k, many))

    def test_as_by_trial(self):
        for lows, highs in [*boxes(1, 4), *boxes(2, 2), ((0, 1, 0), (2, 3, 3)), ((1, 0, 0), (1, 7, 3))]:
            for total in [None, *range(sum(lows), sum(highs) + 1)]:
                box = (lows, highs, total)
                worlds = worlds_of(box)
                allowed = looks_of(worlds)
                for k in range(-1, len(lows) + 1):
                    for many in range(-1, 9):
                        self.same_as_by_trial(box, worlds, (k, many), (k, many) in allowed)

    def same_as_by_trial(self, box, worlds, look, allowed):
        if not allowed:
            self.refused(NotThere, behind, box, look)
            return
        yes, no = split(worlds, look)
        self.assertEqual(behind(box, look), (tight_of(yes, box[2]), tight_of(no, box[2])))

    def test_not_there_goes_last(self):
        for look in ((0, 1), (0, 0), (3, 1), (-1, 1)):
            self.refused(NoBox, behind, ((2, 2), (1, 3), 9), look)
            self.refused(NoBox, behind, ((), (), None), look)
            self.refused(NoWorld, behind, ((2, 2), (3, 3), 3), look)
            self.refused(NoWorld, behind, ((2, 2), (3, 3), 7), look)


if __name__ == "__main__":
    unittest.main()
