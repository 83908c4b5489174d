"""Points [13] and [14]: plans of the least depth, and what they ask of a world."""

import unittest

from numbergaps.errors import NoBox, NoWorld
from numbergaps.looks import least, walked
from tests.helpers import NO_BOXES, SIXTY
from tests.trial import all_plans, boxes_with_worlds, depth_of_plan, is_plan_for, least_depth, worlds_of


class LooksTest(unittest.TestCase):
    def plan_of(self, box):
        """The depth that least tells, if its plan is one for the box and has this depth."""
        told = least(box)
        self.assertIs(type(told), tuple)
        depth, plan = told
        self.assertTrue(is_plan_for(plan, worlds_of(box)), box)
        self.assertEqual(depth_of_plan(plan), depth, box)
        return depth


class Least(LooksTest):
    """[13]"""

    def test_settled_boxes(self):
        for box in [((4,), (4,), None), ((0, 0), (7, 7), 0), ((0, 0), (7, 7), 14), ((0,), (7,), 5),
                    ((1, 2, 3), (1, 2, 3), None), ((1, 2, 3), (7, 7, 7), 6)]:
            self.assertEqual(least(box), (0, ()))

    def test_the_only_plan(self):
        self.assertEqual(least(((0,), (1,), None)), (1, (0, 1, (), ())))
        self.assertEqual(least(((3, 6, 2), (3, 7, 2), None)), (1, (1, 7, (), ())))
        self.assertEqual(least(((0,), (3,), None)), (2, (0, 2, (0, 3, (), ()), (0, 1, (), ()))))

    def test_boxes_that_are_not_tight(self):
        for box, depth in [(((0, 0), (7, 1), 7), 1), (((0, 0, 0), (7, 7, 7), 1), 2), (((0, 3), (7, 7), 4), 1)]:
            self.assertEqual(self.plan_of(box), depth)

    def test_boxes_without_a_total(self):
        """Behind the worse answer half of one place's numbers are left, and the other places as they were."""
        for width in range(8):
            halvings = width.bit_length()
            self.assertEqual(self.plan_of(((0,), (width,), None)), halvings)
            self.assertEqual(self.plan_of(((7 - width, 2), (7, 5), None)), halvings + 2)
        self.assertEqual(self.plan_of(((1, 0, 2), (5, 4, 4), None)), 8)

    def test_against_all_plans(self):
        tried = 0
        for box in [*boxes_with_worlds(1, 4), *boxes_with_worlds(2, 2), *boxes_with_worlds(3, 1)]:
            worlds = worlds_of(box)
            if len(worlds) <= 6:
                tried += 1
                self.assertEqual(self.plan_of(box), min(depth_of_plan(plan) for plan in all_plans(worlds)), box)
        self.assertGreater(tried, 200)

    def test_against_the_trial_of_all_looks(self):
        for box in [*boxes_with_worlds(1, 7), *boxes_with_worlds(2, 3), *boxes_with_worlds(3, 2)]:
            self.assertEqual(self.plan_of(box), least_depth(worlds_of(box)), box)

    def test_more_looks_than_the_count_of_worlds_asks_for(self):
        """No looks part these worlds evenly enough, so that halving them each time is not to be had."""
        for total, worlds, depth in [(3, 7, 4), (None, 27, 6)]:
            box = ((0, 0, 0), (2, 2, 2), total)
            self.assertEqual(len(worlds_of(box)), worlds)
            self.assertEqual(self.plan_of(box), depth)
        for total, worlds, depth in [(4, 15, 5), (6, 28, 6), (15, 28, 6), (17, 15, 5)]:
            box = ((0, 0, 0), (7, 7, 7), total)
            self.assertEqual(len(worlds_of(box)), worlds)
            self.assertEqual(self.plan_of(box), depth)

    def test_boxes_as_wide_as_they_may_be(self):
        self.assertEqual(self.plan_of(((0, 0, 0), (7, 7, 7), None)), 9)
        for total in range(22):
            box = ((0, 0, 0), (7, 7, 7), total)
            self.assertEqual(self.plan_of(box), least_depth(worlds_of(box)))
        for lows, highs, total in [((0, 0, 0), (7, 7, 4), 9), ((0, 1, 0), (7, 4, 7), 12), ((0, 0, 0), (3, 7, 3), 6),
                                   ((0, 0, 0), (5, 5, 5), 9), ((0, 2, 0), (5, 7, 6), 12), ((1, 0, 1), (6, 6, 7), 13)]:
            self.assertEqual(self.plan_of((lows, highs, total)), least_depth(worlds_of((lows, highs, total))))

    def test_refused(self):
        for box in NO_BOXES:
            for total in (None, -1, SIXTY):
                with self.assertRaises(NoBox) as caught:
                    least((box[0], box[1], total))
                self.assertIs(type(caught.exception), NoBox)
        for box in [((0,), (3,), 4), ((2, 2), (3, 3), 3), ((0, 0, 0), (7, 7, 7), 22), ((0,), (7,), -SIXTY),
                    ((0,), (7,), SIXTY)]:
            with self.assertRaises(NoWorld) as caught:
                least(box)
            self.assertIs(type(caught.exception), NoWorld)


class Walked(LooksTest):
    """[14]"""

    def test_a_plan_of_no_looks(self):
        self.assertEqual(walked((), (3,)), [])
        self.assertEqual(walked((), (0, 1, 2)), [])

    def test_looks_and_answers(self):
        plan = (0, 2, (1, 5, (), ()), (1, 3, (0, 1, (), ()), ()))
        self.assertEqual(walked(plan, (2, 5)), [(0, 2, True), (1, 5, True)])
        self.assertEqual(walked(plan, (3, 4)), [(0, 2, True), (1, 5, False)])
        self.assertEqual(walked(plan, (1, 3)), [(0, 2, False), (1, 3, True), (0, 1, True)])
        self.assertEqual(walked(plan, (0, 7)), [(0, 2, False), (1, 3, True), (0, 1, False)])
        self.assertEqual(walked(plan, (1, 2)), [(0, 2, False), (1, 3, False)])

    def test_answers_are_true_or_false(self):
        told = walked((0, 1, (), (0, 0, (), ())), (0,))
        self.assertIs(type(told), list)
        self.assertEqual([type(row) for row in told], [tuple, tuple])
        self.assertIs(told[0][2], False)
        self.assertIs(told[1][2], True)

    def test_plans_that_are_for_no_box(self):
        """Looks that come twice, that have but one answer, and at numbers that no box has."""
        plan = (0, 4, (0, 4, (), (0, 9, (), ())), (0, 4, (0, 1, (), ()), ()))
        self.assertEqual(walked(plan, (4,)), [(0, 4, True), (0, 4, True)])
        self.assertEqual(walked(plan, (3,)), [(0, 4, False), (0, 4, False)])
        plan = (3, SIXTY, (4, -SIXTY, (), ()), (4, -SIXTY, (0, 0, (), ()), ()))
        self.assertEqual(walked(plan, (0, 0, 0, SIXTY, -SIXTY)), [(3, SIXTY, True), (4, -SIXTY, True)])
        self.assertEqual(walked(plan, (-5, 0, 0, SIXTY - 1, 0)), [
            (3, SIXTY, False), (4, -SIXTY, True), (0, 0, False),
        ])

    def test_a_long_plan(self):
        plan = ()
        for many in range(5000, 0, -1):
            plan = (0, many, plan, ())
        self.assertEqual(walked(plan, (SIXTY,)), [(0, many, True) for many in range(1, 5001)])
        self.assertEqual(walked(plan, (2,)), [(0, 1, True), (0, 2, True), (0, 3, False)])

    def test_the_plans_of_least_settle_each_world(self):
        for box in [((0, 1, 0), (3, 4, 2), None), ((0, 0, 0), (7, 7, 7), 9), ((2, 0), (7, 7), 8)]:
            depth, plan = least(box)
            worlds = worlds_of(box)
            ways = [walked(plan, world) for world in worlds]
            self.assertEqual(max(len(way) for way in ways), depth)
            self.assertEqual(len({tuple(way) for way in ways}), len(worlds))
            for world, way in zip(worlds, ways):
                for k, many, answer in way:
                    self.assertIs(world[k] >= many, answer)

    def test_a_list_that_is_told_may_be_changed(self):
        plan = (0, 2, (0, 3, (), ()), ())
        walked(plan, (2,)).clear()
        walked(plan, (2,)).append((0, 0, True))
        self.assertEqual(walked(plan, (2,)), [(0, 2, True), (0, 3, False)])


if __name__ == "__main__":
    unittest.main()
