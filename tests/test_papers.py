"""Point [15]: papers, and whether one shows a claim."""

import random
import unittest

from numbergaps.errors import NoBox, NoWorld
from numbergaps.looks import least
from numbergaps.papers import paper, shows
from tests.helpers import NO_BOXES, SIXTY
from tests.trial import boxes, boxes_with_worlds, least_depth, shows_by_trial, tight_of, worlds_of

# Four numbers in a row: at each look, one of the answers leaves two worlds or more.
FOUR = ((0,), (3,), None)
FOUR_ROWS = [((0,), (3,), 2), ((1,), (3,), 1), ((0,), (1,), 1), ((0,), (2,), 1)]

# Two places that make 3: the worlds are (0, 3), (1, 2), (2, 1), (3, 0).
MAKING_THREE = ((0, 0), (7, 7), 3)
MAKING_THREE_ROWS = [((0, 0), (3, 3), 2), ((1, 0), (3, 2), 1), ((2, 0), (3, 1), 1), ((0, 1), (2, 3), 1)]


class PapersTest(unittest.TestCase):
    def judged(self, box, depth, rows):
        """What shows tells, which is what the document says and changes nothing."""
        before = list(rows)
        told = shows(box, depth, rows)
        self.assertIs(told, shows_by_trial(box, depth, rows), (box, depth, rows))
        self.assertEqual(rows, before)
        return told

    def shown(self, box, depth, rows):
        self.assertIs(self.judged(box, depth, rows), True, (box, depth, rows))

    def not_shown(self, box, depth, rows):
        self.assertIs(self.judged(box, depth, rows), False, (box, depth, rows))


class Papers(PapersTest):
    def same_as_least(self, box, depth):
        """The paper shows the least depth and all below it, and no more."""
        rows = paper(box)
        self.assertIs(type(rows), list)
        for row in rows:
            self.assertEqual([type(part) for part in row], [tuple, tuple, int])
        for claim in range(depth + 1):
            self.shown(box, claim, rows)
        self.not_shown(box, depth + 1, rows)

    def test_settled_boxes_need_no_rows(self):
        for box in [((4,), (4,), None), ((0, 0), (7, 7), 14), ((0, 0, 0), (7, 7, 7), 0)]:
            self.shown(box, 0, paper(box))
            self.not_shown(box, 1, paper(box))

    def test_every_small_box(self):
        for box in [*boxes_with_worlds(1, 5), *boxes_with_worlds(2, 3), *boxes_with_worlds(3, 1)]:
            self.same_as_least(box, least_depth(worlds_of(box)))

    def test_wider_boxes(self):
        for box in [((0, 0, 0), (2, 2, 2), None), ((1, 0, 0), (2, 3, 2), 4), ((0,), (7,), None),
                    ((0, 0), (7, 7), None), ((0, 0, 0), (7, 7, 7), 4), ((2, 5), (7, 7), 9), ((0, 0, 0), (5, 5, 5), 9)]:
            self.same_as_least(box, least(box)[0])

    def test_boxes_as_wide_as_they_may_be(self):
        for total, depth in [(None, 9), (10, 6)]:
            box = ((0, 0, 0), (7, 7, 7), total)
            rows = paper(box)
            self.assertIs(shows(box, depth, rows), True)
            self.assertIs(shows(box, depth + 1, rows), False)

    def test_refused(self):
        for box in NO_BOXES:
            for total in (None, -1, SIXTY):
                for rows in ([], FOUR_ROWS, [((9,), (1,), 1)]):
                    self.refused(NoBox, (box[0], box[1], total), rows)
        for box in [((0,), (3,), 4), ((2, 2), (3, 3), 3), ((0, 0, 0), (7, 7, 7), 22), ((0,), (7,), -SIXTY)]:
            for rows in ([], FOUR_ROWS, [((9,), (1,), 1)]):
                self.refused(NoWorld, box, rows)

    def refused(self, error, box, rows):
        with self.assertRaises(error) as caught:
            paper(box)
        self.assertIs(type(caught.exception), error)
        for depth in (0, 1):
            with self.assertRaises(error) as caught:
                shows(box, depth, rows)
            self.assertIs(type(caught.exception), error)

    def test_a_list_that_is_told_may_be_changed(self):
        for box in (FOUR, MAKING_THREE):
            told = list(paper(box))
            paper(box).clear()
            paper(box).append(((0,), (0,), 9))
            self.assertEqual(paper(box), told)


class Shows(PapersTest):
    def test_a_claim_of_nothing(self):
        for box in (FOUR, MAKING_THREE, ((5,), (5,), None), ((0, 0, 0), (7, 7, 7), None)):
            self.shown(box, 0, [])
            for depth in (1, 2, 9, SIXTY):
                self.not_shown(box, depth, [])

    def test_a_claim_of_nothing_by_a_bad_paper(self):
        """The rows must hold, whatever is claimed."""
        self.shown(FOUR, 0, [((1,), (3,), 1)])
        self.not_shown(FOUR, 0, [((1,), (3,), 2)])
        self.not_shown(FOUR, 0, [((1,), (1,), 1)])
        self.not_shown(FOUR, 0, [((1,), (8,), 0)])
        self.not_shown(FOUR, 0, [((2,), (1,), 0)])

    def test_depths_that_are_shown(self):
        for box, rows in [(FOUR, FOUR_ROWS), (MAKING_THREE, MAKING_THREE_ROWS)]:
            for depth in (0, 1, 2):
                self.shown(box, depth, rows)
            for depth in (3, 9, SIXTY):
                self.not_shown(box, depth, rows)

    def test_the_tight_box_must_stand_in_the_paper(self):
        self.shown(((0, 0), (3, 3), 3), 2, MAKING_THREE_ROWS)
        self.shown(((0, 0), (3, 7), 3), 2, MAKING_THREE_ROWS)
        self.not_shown(((0, 0), (4, 4), 4), 2, MAKING_THREE_ROWS)
        self.not_shown(((1, 0), (7, 7), 3), 2, MAKING_THREE_ROWS)
        self.shown(((1, 0), (7, 7), 3), 1, MAKING_THREE_ROWS)
        self.not_shown(FOUR, 1, FOUR_ROWS[1:])
        self.not_shown(((0,), (4,), None), 2, FOUR_ROWS)

    def test_any_order_of_rows(self):
        self.shown(FOUR, 2, FOUR_ROWS[::-1])
        self.shown(FOUR, 2, FOUR_ROWS[2:] + FOUR_ROWS[:2])

    def test_a_row_without_what_it_needs(self):
        """The look at 2 leaves two worlds on each side: one of these boxes is enough."""
        self.not_shown(FOUR, 2, FOUR_ROWS[:1])
        self.not_shown(FOUR, 1, FOUR_ROWS[:1])
        for gone in (1, 2, 3):
            self.not_shown(FOUR, 2, FOUR_ROWS[:gone] + FOUR_ROWS[gone + 1:])
        self.shown(FOUR, 2, FOUR_ROWS[:2] + FOUR_ROWS[3:] + [((2,), (3,), 1)])
        self.shown(FOUR, 2, FOUR_ROWS + [((2,), (3,), 1)])

    def test_a_row_too_deep(self):
        for at in range(4):
            lows, highs, depth = FOUR_ROWS[at]
            for more in (1, 2, SIXTY):
                rows = FOUR_ROWS[:at] + [(lows, highs, depth + more)] + FOUR_ROWS[at + 1:]
                self.not_shown(FOUR, 2, rows)

    def test_a_row_less_deep(self):
        for at in range(1, 4):
            lows, highs, _ = FOUR_ROWS[at]
            for less in (0, -1, -SIXTY):
                self.not_shown(FOUR, 2, FOUR_ROWS[:at] + [(lows, highs, less)] + FOUR_ROWS[at + 1:])
        self.not_shown(FOUR, 2, [((0,), (3,), 1), *FOUR_ROWS[1:]])
        self.shown(FOUR, 1, [((0,), (3,), 1), *FOUR_ROWS[1:]])
        self.not_shown(FOUR, 1, [((0,), (3,), 0), *FOUR_ROWS[1:]])

    def test_a_depth_of_nothing_need_not_stand_there(self):
        for low, high in [(0, 1), (0, 7), (3, 6)]:
            self.shown(((low,), (high,), None), 1, [((low,), (high,), 1)])
        self.shown(((0, 0), (1, 1), 1), 1, [((0, 0), (1, 1), 1)])

    def test_a_depth_of_nothing_may_stand_there_with_less(self):
        for less in (-1, -SIXTY):
            self.shown(FOUR, 0, [((0,), (3,), less)])
            self.not_shown(FOUR, 1, [((0,), (3,), less)])
            self.shown(((0,), (1,), None), 1, [((0,), (1,), 1), ((0,), (0,), less), ((1,), (1,), less)])
            self.shown(((0, 0), (1, 1), 1), 1, [((0, 1), (0, 1), less), ((1, 0), (1, 0), less), ((0, 0), (1, 1), 1)])

    def test_rows_of_depth_nothing(self):
        """They must be boxes that have worlds, but they may be settled, and needn't be tight."""
        for row in [((2,), (2,), 0), ((0,), (7,), 0), ((0,), (7,), -1), ((0, 0, 0), (7, 7, 7), 0), ((2,), (2,), -SIXTY)]:
            self.shown(FOUR, 2, [*FOUR_ROWS, row])
            self.shown(FOUR, 2, [row, *FOUR_ROWS])
        self.shown(MAKING_THREE, 2, [((0, 0), (7, 7), 0), *MAKING_THREE_ROWS])
        self.shown(MAKING_THREE, 2, [((3, 0), (3, 0), 0), *MAKING_THREE_ROWS])

    def test_settled_rows(self):
        for depth in (1, 2, SIXTY):
            self.not_shown(FOUR, 2, [*FOUR_ROWS, ((2,), (2,), depth)])
            self.not_shown(MAKING_THREE, 2, [*MAKING_THREE_ROWS, ((1, 2), (1, 2), depth)])
            self.not_shown(((2,), (2,), None), depth, [((2,), (2,), depth)])
            self.not_shown(((2,), (2,), None), 0, [((2,), (2,), depth)])

    def test_rows_that_are_not_tight(self):
        for lows, highs in [((0, 0), (7, 7)), ((0, 0), (3, 4)), ((0, 0), (2, 3)), ((2, 0), (3, 7))]:
            self.not_shown(MAKING_THREE, 2, [*MAKING_THREE_ROWS, (lows, highs, 1)])
            self.not_shown((lows, highs, 3), 1, [(lows, highs, 1)])
            self.shown(MAKING_THREE, 2, [*MAKING_THREE_ROWS, (lows, highs, 0)])

    def test_rows_of_other_boxes(self):
        """They must hold as well, with the total of the box, and may have other places."""
        for row in [((5,), (6,), 1), ((0,), (7,), 1), ((0, 3), (1, 4), 1), ((0, 0, 0), (0, 0, 7), 1)]:
            self.shown(FOUR, 2, [*FOUR_ROWS, row])
            self.not_shown(FOUR, 2, [*FOUR_ROWS, (*row[:2], 2)])
        self.shown(MAKING_THREE, 2, [((0, 0, 0), (3, 3, 3), 1), *MAKING_THREE_ROWS])
        self.not_shown(MAKING_THREE, 2, [((0, 0, 0), (3, 3, 3), 2), *MAKING_THREE_ROWS])

    def test_rows_that_are_no_boxes(self):
        for lows, highs, _ in NO_BOXES:
            for depth in (-1, 0, 1, 2):
                row = (lows, highs, depth)
                self.not_shown(FOUR, 2, [*FOUR_ROWS, row])
                self.not_shown(FOUR, 2, [row, *FOUR_ROWS])
                self.not_shown(FOUR, 0, [row])
                self.not_shown(MAKING_THREE, 2, [*MAKING_THREE_ROWS, row])

    def test_rows_without_worlds(self):
        """Of a total of 3; without a total, each of them has some."""
        for row in [((0,), (2,), 0), ((4,), (6,), 0), ((0, 0), (1, 1), 0), ((2, 2), (3, 3), 0), ((2, 2), (3, 3), -1),
                    ((0, 0), (1, 1), 1), ((1, 1, 2), (7, 7, 7), 0)]:
            self.not_shown(MAKING_THREE, 2, [*MAKING_THREE_ROWS, row])
            self.not_shown(MAKING_THREE, 0, [row])
            self.shown(FOUR, 2, [*FOUR_ROWS, (*row[:2], 0)])

    def test_a_row_that_comes_twice(self):
        self.shown(FOUR, 2, FOUR_ROWS * 2)
        for at in range(4):
            lows, highs, depth = FOUR_ROWS[at]
            for other in (depth - 1, 0, -1):
                self.shown(FOUR, 2, [*FOUR_ROWS, (lows, highs, other)])
                self.shown(FOUR, 2, [(lows, highs, other), *FOUR_ROWS])
            self.not_shown(FOUR, 2, [*FOUR_ROWS, (lows, highs, depth + 1)])
            self.not_shown(FOUR, 2, [(lows, highs, depth + 1), *FOUR_ROWS])

    def test_papers_of_other_totals(self):
        rows = paper(((0, 0), (3, 3), None))
        self.assertIs(shows(((0, 0), (3, 3), None), 4, rows), True)
        self.not_shown(((0, 0), (3, 3), 3), 2, rows)
        self.not_shown(((0, 0), (3, 3), None), 2, MAKING_THREE_ROWS)

    def test_papers_that_are_changed(self):
        """One row is left out, put in, or given another depth."""
        chance = random.Random(5)
        for box in [((0, 0), (2, 3), None), ((0,), (7,), None), ((0, 0, 0), (2, 2, 2), 3), ((0, 1, 0), (2, 2, 2), None)]:
            rows = paper(box)
            depth = least(box)[0]
            others = list(boxes(len(box[0]), 3))
            for _ in range(150):
                changed = list(rows)
                at = chance.randrange(len(changed))
                lows, highs, claim = changed[at]
                changed[at:at + 1] = chance.choice([
                    [], [(lows, highs, claim + chance.randint(-2, 2))],
                    [changed[at], (*chance.choice(others), chance.randint(0, 2))],
                ])
                for asked in (depth - 1, depth, depth + 1):
                    self.judged(box, asked, changed)

    def test_no_paper_shows_more_than_the_least_depth(self):
        """All claims of the least depths hold together; with any one greater they do not."""
        for total in (None, 2, 3):
            rows = []
            for lows, highs in boxes(2, 2):
                worlds = worlds_of((lows, highs, total))
                if worlds and tight_of(worlds, total) == (lows, highs, total):
                    rows.append((lows, highs, least_depth(worlds)))
            for at, (lows, highs, depth) in enumerate(rows):
                self.shown((lows, highs, total), depth, rows)
                self.not_shown((lows, highs, total), depth + 1, rows)
                more = [*rows[:at], (lows, highs, depth + 1), *rows[at + 1:]]
                self.not_shown((lows, highs, total), depth + 1, more)

    def test_rows_may_be_changed_later(self):
        rows = list(FOUR_ROWS)
        self.shown(FOUR, 2, rows)
        rows.pop()
        self.not_shown(FOUR, 2, rows)
        rows.append(FOUR_ROWS[-1])
        self.shown(FOUR, 2, rows)


if __name__ == "__main__":
    unittest.main()
