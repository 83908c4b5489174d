"""Points [9] and [10]: worlds, bounds, and what is sure of a number."""

import itertools
import unittest

from numbergaps.audit import bounds, sure, worlds
from numbergaps.errors import NoNumber, NoWorld
from numbergaps.office import Office
from tests.helpers import SIXTY, settled_office, shown, with_rests


def worlds_by_trial(ranges, counted):
    """All worlds of rests with these (low, high), by trying every tuple."""
    tuples = itertools.product(*[range(low, high + 1) for low, high in ranges])
    return [world for world in tuples if counted is None or sum(world) == counted]


class AuditTest(unittest.TestCase):
    def no_world(self, office, counted, number=1):
        """Each question is refused with just NoWorld."""
        for ask in (worlds, bounds, lambda *told: sure(told[0], number, told[1])):
            with self.assertRaises(NoWorld) as caught:
                ask(office, counted)
            self.assertIs(type(caught.exception), NoWorld)


class Worlds(AuditTest):
    """[9] and [10]"""

    def test_the_doors_not_counted(self):
        office = with_rests([1, 2])
        self.assertEqual(worlds(office, None), [(0, 0), (0, 1), (0, 2), (1, 0), (1, 1), (1, 2)])

    def test_the_doors_counted(self):
        office = with_rests([1, 2])
        self.assertEqual(worlds(office, 0), [(0, 0)])
        self.assertEqual(worlds(office, 1), [(0, 1), (1, 0)])
        self.assertEqual(worlds(office, 2), [(0, 2), (1, 1)])
        self.assertEqual(worlds(office, 3), [(1, 2)])

    def test_no_fewer_than_up_to_the_last_one_found(self):
        office = with_rests([3, 2], [2, 4])
        self.assertEqual(worlds(office, None), [(2, 1), (2, 2), (3, 1), (3, 2)])
        self.assertEqual(worlds(office, 3), [(2, 1)])
        self.assertEqual(worlds(office, 4), [(2, 2), (3, 1)])
        self.no_world(office, 2)

    def test_found_is_counted_in_the_order_of_use(self):
        office = Office(8, 2)
        office.lend(1, 2)
        office.lend(0, 2)
        office.back(1)
        office.lend(0, 2)
        office.stop(0)
        office.found(1)
        self.assertEqual(worlds(office, None), [(3,), (4,)])

    def test_rests_of_no_numbers(self):
        office = with_rests([0, 1, 0])
        self.assertEqual(worlds(office, None), [(0, 0, 0), (0, 1, 0)])
        self.assertEqual(worlds(office, 1), [(0, 1, 0)])
        self.assertEqual(bounds(office, None), [(0, 0, 0), (1, 0, 1), (2, 0, 0)])
        office = with_rests([0])
        self.assertEqual(worlds(office, None), [(0,)])
        self.assertEqual(worlds(office, 0), [(0,)])
        self.no_world(office, 1)

    def test_offices_without_rests(self):
        going = Office(8, 3)
        going.lend(0, 3)
        going.report(0, ["paper"])
        for office in (Office(1, 1), going, settled_office()):
            for counted in (0, None):
                self.assertEqual(worlds(office, counted), [()])
                self.assertEqual(bounds(office, counted), [])
            for counted in (1, -1, 400, SIXTY, -SIXTY):
                self.no_world(office, counted)

    def test_rests_go_by_rising_desks(self):
        office = Office(10, 4)
        office.lend(3, 3)
        office.lend(1, 1)
        office.stop(3)
        office.stop(1)
        self.assertEqual(bounds(office, None), [(1, 0, 1), (3, 0, 3)])
        self.assertEqual(worlds(office, 3), [(0, 3), (1, 2)])

    def test_a_settled_rest_is_none_any_more(self):
        office = with_rests([2, 2, 2], [1])
        office.settle(1, 1)
        self.assertEqual(bounds(office, None), [(0, 1, 2), (2, 0, 2)])
        self.assertEqual(worlds(office, 2), [(1, 1), (2, 0)])

    def test_counts_without_a_world(self):
        office = with_rests([3, 2], [2, 4])
        for counted in (2, 0, -1, -SIXTY, 6, 401, SIXTY):
            self.no_world(office, counted)
        for counted in (3, 4, 5):
            self.assertNotEqual(worlds(office, counted), [])

    def test_few_worlds_of_many_numbers(self):
        office = with_rests([66] * 6)
        self.assertEqual(worlds(office, 396), [(66,) * 6])
        self.assertEqual(worlds(office, 395), [
            tuple(65 if place == short else 66 for place in range(6)) for short in range(6)
        ])
        self.assertEqual(worlds(office, 1), [
            tuple(1 if place == 5 - one else 0 for place in range(6)) for one in range(6)
        ])
        self.assertEqual(len(worlds(with_rests([400]), None)), 401)
        self.assertEqual(len(worlds(with_rests([9, 9, 9]), None)), 1000)

    def test_as_by_trial(self):
        for sizes in itertools.product(range(4), repeat=3):
            firsts = [1, 1 + sizes[0], 1 + sizes[0] + sizes[1]]
            for lows in itertools.product(*[range(size + 1) for size in sizes]):
                finds = [first + low - 1 for first, low in zip(firsts, lows) if low > 0]
                office = with_rests(sizes, finds)
                ranges = list(zip(lows, sizes))
                for counted in [None, *range(-1, sum(sizes) + 2)]:
                    self.same_as_by_trial(office, ranges, counted)

    def same_as_by_trial(self, office, ranges, counted):
        told = worlds_by_trial(ranges, counted)
        if not told:
            self.no_world(office, counted)
            return
        self.assertEqual(worlds(office, counted), told)
        self.assertEqual(bounds(office, counted), [
            (desk, min(world[desk] for world in told), max(world[desk] for world in told))
            for desk in range(3)
        ])
        for desk in range(3):
            for place, number in enumerate(office.rest(desk)):
                answers = {world[desk] > place for world in told}
                word = None if len(answers) == 2 else "used" if True in answers else "unused"
                self.assertEqual(sure(office, number, counted), word)

    def test_lists_that_are_told_may_be_changed(self):
        office = with_rests([2, 1], [1], top=8, desks=3)
        before = shown(office, 8, 3)
        for counted in (None, 2):
            told = worlds(office, counted)
            worlds(office, counted).clear()
            bounds(office, counted).clear()
            bounds(office, counted).append((0, 0, 0))
            self.assertEqual(worlds(office, counted), told)
        self.assertEqual(shown(office, 8, 3), before)


class Bounds(AuditTest):
    """[10]"""

    def test_the_doors_not_counted(self):
        self.assertEqual(bounds(with_rests([4, 3], [2]), None), [(0, 2, 4), (1, 0, 3)])

    def test_the_doors_counted(self):
        office = with_rests([4, 3], [2])
        self.assertEqual(bounds(office, 2), [(0, 2, 2), (1, 0, 0)])
        self.assertEqual(bounds(office, 3), [(0, 2, 3), (1, 0, 1)])
        self.assertEqual(bounds(office, 5), [(0, 2, 4), (1, 1, 3)])
        self.assertEqual(bounds(office, 6), [(0, 3, 4), (1, 2, 3)])
        self.assertEqual(bounds(office, 7), [(0, 4, 4), (1, 3, 3)])
        self.no_world(office, 1)
        self.no_world(office, 8)

    def test_rests_of_many_numbers(self):
        office = with_rests([66] * 6, [40, 66 + 66])
        self.assertEqual(bounds(office, None), [
            (0, 40, 66), (1, 66, 66), (2, 0, 66), (3, 0, 66), (4, 0, 66), (5, 0, 66),
        ])
        self.assertEqual(bounds(office, 110), [
            (0, 40, 44), (1, 66, 66), (2, 0, 4), (3, 0, 4), (4, 0, 4), (5, 0, 4),
        ])
        self.assertEqual(bounds(office, 390), [
            (0, 60, 66), (1, 66, 66), (2, 60, 66), (3, 60, 66), (4, 60, 66), (5, 60, 66),
        ])
        with self.assertRaises(NoWorld):
            bounds(office, 105)
        with self.assertRaises(NoWorld):
            bounds(office, 397)


class Sure(AuditTest):
    """[10]"""

    def test_numbers_of_rests(self):
        office = with_rests([4, 3], [2])
        told = {
            None: ["used", "used", None, None, None, None, None],
            2: ["used", "used", "unused", "unused", "unused", "unused", "unused"],
            3: ["used", "used", None, "unused", None, "unused", "unused"],
            5: ["used", "used", None, None, "used", None, None],
            7: ["used"] * 7,
        }
        for counted, words in told.items():
            with self.subTest(counted=counted):
                self.assertEqual([sure(office, number, counted) for number in range(1, 8)], words)

    def test_a_number_in_no_rest_by_its_state(self):
        office = settled_office()
        for counted in (None, 0):
            self.assertEqual([sure(office, number, counted) for number in range(1, 9)], [
                "used", "used", "used", "unused", "used", "unused", "unused", "unused",
            ])

    def test_a_number_in_no_rest_beside_rests(self):
        office = settled_office()
        office.stop(1)
        office.lend(2, 1)
        told = ["used", "used", "used", "unused", "used", None, "unused", "unused"]
        self.assertEqual([sure(office, number, None) for number in range(1, 9)], told)
        told[5] = "used"
        self.assertEqual([sure(office, number, 1) for number in range(1, 9)], told)
        told[5] = "unused"
        self.assertEqual([sure(office, number, 0) for number in range(1, 9)], told)

    def test_by_the_order_of_use(self):
        office = Office(8, 2)
        office.lend(1, 2)
        office.lend(0, 2)
        office.back(1)
        office.lend(0, 2)
        self.assertEqual(office.stop(0), [3, 4, 1, 2])
        office.found(4)
        self.assertEqual([sure(office, number, None) for number in (3, 4, 1, 2)], ["used", "used", None, None])
        self.assertEqual([sure(office, number, 3) for number in (3, 4, 1, 2)], ["used", "used", "used", "unused"])

    def test_rests_of_many_numbers(self):
        office = with_rests([66] * 6, [40])
        self.assertEqual([sure(office, number, 42) for number in range(1, 397)], (
            ["used"] * 40 + [None] * 2 + ["unused"] * 24 + ([None] * 2 + ["unused"] * 64) * 5
        ))
        self.assertEqual([sure(office, number, 394) for number in range(1, 397)], (
            (["used"] * 64 + [None] * 2) * 6
        ))
        self.assertEqual(sure(office, 400, 394), "unused")

    def test_no_number_goes_ahead_of_no_world(self):
        office = with_rests([2], top=8, desks=3)
        for number in (0, -1, 9, SIXTY, -SIXTY):
            for counted in (None, 1, 3, -1, SIXTY):
                with self.subTest(number=number, counted=counted):
                    with self.assertRaises(NoNumber) as caught:
                        sure(office, number, counted)
                    self.assertIs(type(caught.exception), NoNumber)

    def test_no_world_of_any_number(self):
        office = settled_office()
        for number in range(1, 9):
            self.no_world(office, 1, number)
        office.stop(1)
        for number in range(1, 9):
            self.no_world(office, 2, number)
            self.no_world(office, -1, number)


if __name__ == "__main__":
    unittest.main()
