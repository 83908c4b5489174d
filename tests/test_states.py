"""Points [7] and [8]: the states of the numbers and the gaps."""

import unittest

from numbergaps.errors import NoNumber
from numbergaps.office import Office
from numbergaps.states import gaps, state_of
from tests.helpers import SIXTY, settled_office, shown, states, with_rests


class States(unittest.TestCase):
    """[7]"""

    def test_each_state(self):
        office = Office(12, 3)
        office.lend(0, 3)
        office.report(0, ["paper", "spoilt"])
        office.lend(1, 4)
        office.stop(1)
        office.found(6)
        office.lend(2, 2)
        office.stop(2)
        office.settle(2, 1)
        self.assertEqual(states(office, 12), [
            "paper", "spoilt", "open", "used", "used", "paper", "rest",
            "used", "free", "free", "free", "free",
        ])

    def test_behind_all_that_were_found(self):
        office = with_rests([5], [2, 4], top=6, desks=1)
        self.assertEqual(states(office, 6), ["used", "paper", "used", "paper", "rest", "free"])

    def test_a_rest_in_which_none_was_found(self):
        self.assertEqual(states(with_rests([2], top=3, desks=1), 3), ["rest", "rest", "free"])

    def test_no_number_of_the_office(self):
        office = Office(12, 3)
        for number in (0, -1, 13, 400, SIXTY, -SIXTY):
            with self.subTest(number=number):
                with self.assertRaises(NoNumber) as caught:
                    state_of(office, number)
                self.assertIs(type(caught.exception), NoNumber)
        self.assertEqual(state_of(office, 1), "free")
        self.assertEqual(state_of(office, 12), "free")


class Gaps(unittest.TestCase):
    """[8]"""

    def test_nothing_used(self):
        office = Office(8, 3)
        self.assertEqual(gaps(office), [])
        office.lend(0, 3)
        self.assertEqual(gaps(office), [])
        office.stop(0)
        self.assertEqual(gaps(office), [])

    def test_papers_without_a_gap(self):
        office = Office(8, 3)
        office.lend(0, 3)
        office.report(0, ["paper", "paper"])
        self.assertEqual(gaps(office), [])

    def test_each_kind_of_gap(self):
        office = Office(20, 4)
        office.lend(0, 3)
        office.report(0, ["paper", "spoilt"])
        office.lend(1, 4)
        office.stop(1)
        office.found(5)
        office.lend(2, 3)
        office.stop(2)
        office.settle(2, 1)
        office.lend(3, 4)
        office.report(3, ["paper", "paper", "spoilt"])
        self.assertEqual(office.lend(0, 3), (13, 15))
        self.assertEqual(gaps(office), [
            (2, "spoilt", None), (3, "open", 0), (4, "used", 1), (6, "rest", 1), (7, "rest", 1),
            (8, "used", None),
        ])
        office.lend(3, 1)
        office.report(3, ["paper"])
        office.report(3, ["paper"])
        self.assertEqual(gaps(office)[-3:], [(13, "open", 0), (14, "open", 0), (15, "open", 0)])

    def test_free_numbers_are_gaps(self):
        office = Office(8, 3)
        office.lend(0, 2)
        office.lend(1, 2)
        office.report(1, ["paper"])
        office.back(0)
        self.assertEqual(gaps(office), [(1, "free", None), (2, "free", None)])

    def test_the_greatest_one_is_a_paper(self):
        office = Office(4, 2)
        office.lend(0, 1)
        office.lend(1, 1)
        office.report(1, ["paper"])
        self.assertEqual(gaps(office), [(1, "open", 0)])

    def test_the_greatest_one_is_spoilt(self):
        office = Office(4, 2)
        office.lend(0, 1)
        office.lend(1, 1)
        office.report(1, ["spoilt"])
        self.assertEqual(gaps(office), [(1, "open", 0)])

    def test_the_greatest_one_is_used(self):
        office = with_rests([1, 2], top=4, desks=2)
        office.settle(1, 1)
        self.assertEqual(gaps(office), [(1, "rest", 0)])

    def test_used_in_a_rest_may_be_the_greatest_one(self):
        office = Office(6, 2)
        office.lend(1, 2)
        office.lend(0, 2)
        office.back(1)
        office.lend(0, 1)
        self.assertEqual(office.stop(0), [3, 4, 1])
        office.found(1)
        self.assertEqual(states(office, 6), ["paper", "free", "used", "used", "free", "free"])
        self.assertEqual(gaps(office), [(2, "free", None), (3, "used", 0)])

    def test_the_last_number_of_the_greatest_office(self):
        office = with_rests([400], [400])
        self.assertEqual(gaps(office), [(number, "used", 0) for number in range(1, 400)])

    def test_a_settled_office(self):
        self.assertEqual(gaps(settled_office()), [(2, "used", None), (4, "free", None)])

    def test_a_list_that_is_told_may_be_changed(self):
        office = with_rests([3], [3], top=8, desks=3)
        before = shown(office, 8, 3)
        gaps(office).clear()
        gaps(office).append((8, "odd", 2))
        self.assertEqual(shown(office, 8, 3), before)


if __name__ == "__main__":
    unittest.main()
