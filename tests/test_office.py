"""Points [1] to [6]: the office, its deeds and their refusals."""

import unittest

from numbergaps.errors import (
    NoCount, NoDesk, NoNumber, NoOffice, NoRoom, NotThere, NoWord, Short, Stopped, Twice,
)
from numbergaps.office import Office
from numbergaps.states import state_of
from tests.helpers import SIXTY, settled_office, shown, states, with_rests


class OfficeTest(unittest.TestCase):
    def refused(self, error, office, deed, *told, top=8, desks=3):
        """The deed is refused with just this class, and nothing is changed by it."""
        before = shown(office, top, desks)
        with self.assertRaises(error) as caught:
            getattr(office, deed)(*told)
        self.assertIs(type(caught.exception), error)
        self.assertEqual(shown(office, top, desks), before)


class Numbers(OfficeTest):
    """[2]"""

    def test_the_least_and_the_greatest_office(self):
        for top in (1, 2, 399, 400):
            for desks in (1, 2, 5, 6):
                with self.subTest(top=top, desks=desks):
                    office = Office(top, desks)
                    self.assertEqual(states(office, top), ["free"] * top)
                    self.assertEqual([office.open_numbers(desk) for desk in range(desks)], [[]] * desks)
                    self.assertEqual([office.rest(desk) for desk in range(desks)], [[]] * desks)

    def test_no_office(self):
        for top, desks in [
            (0, 1), (-1, 1), (401, 1), (SIXTY, 1), (-SIXTY, 1),
            (1, 0), (1, -1), (1, 7), (400, 7), (1, SIXTY), (1, -SIXTY), (0, 0), (401, 7),
        ]:
            with self.subTest(top=top, desks=desks):
                with self.assertRaises(NoOffice) as caught:
                    Office(top, desks)
                self.assertIs(type(caught.exception), NoOffice)

    def test_numbers_go_from_one_to_the_top(self):
        office = Office(3, 1)
        self.assertEqual(office.lend(0, 3), (1, 3))
        for number in (0, -1, 4, SIXTY, -SIXTY):
            with self.assertRaises(NoNumber):
                state_of(office, number)

    def test_desks_go_from_zero(self):
        office = Office(8, 3)
        for desk in (0, 1, 2):
            self.assertEqual(office.open_numbers(desk), [])
        for desk in (-1, 3, -3, SIXTY, -SIXTY):
            with self.subTest(desk=desk):
                self.refused(NoDesk, office, "lend", desk, 1)
                self.refused(NoDesk, office, "report", desk, [])
                self.refused(NoDesk, office, "back", desk)
                self.refused(NoDesk, office, "stop", desk)
                self.refused(NoDesk, office, "settle", desk, 0)
                self.refused(NoDesk, office, "open_numbers", desk)
                self.refused(NoDesk, office, "rest", desk)

    def test_two_offices_beside_each_other(self):
        one = Office(8, 3)
        other = Office(8, 3)
        before = shown(other, 8, 3)
        one.lend(0, 3)
        one.report(0, ["paper"])
        one.stop(0)
        one.found(2)
        self.assertEqual(shown(other, 8, 3), before)
        self.assertEqual(other.lend(0, 1), (1, 1))
        self.assertEqual(one.rest(0), [2, 3])
        self.assertEqual(one.lend(1, 1), (4, 4))


class Lending(OfficeTest):
    """[3]"""

    def test_the_first_of_the_free_numbers_that_suffice(self):
        office = Office(10, 2)
        self.assertEqual(office.lend(0, 2), (1, 2))
        self.assertEqual(office.lend(1, 3), (3, 5))
        office.back(0)
        self.assertEqual(office.lend(1, 3), (6, 8))
        self.assertEqual(office.lend(1, 2), (1, 2))
        self.assertEqual(office.lend(0, 1), (9, 9))
        self.assertEqual(office.lend(0, 1), (10, 10))

    def test_a_block_lies_in_one_piece(self):
        office = Office(5, 3)
        office.lend(0, 2)
        office.lend(1, 1)
        office.back(0)
        self.refused(NoRoom, office, "lend", 2, 3, top=5)
        self.assertEqual(office.lend(2, 2), (1, 2))
        self.assertEqual(office.lend(2, 2), (4, 5))
        self.refused(NoRoom, office, "lend", 2, 1, top=5)

    def test_the_whole_office_in_one_block(self):
        office = Office(400, 6)
        self.assertEqual(office.lend(5, 400), (1, 400))
        self.assertEqual(office.open_numbers(5), list(range(1, 401)))
        self.assertEqual(Office(1, 1).lend(0, 1), (1, 1))

    def test_open_numbers_go_block_by_block(self):
        office = Office(10, 2)
        office.lend(0, 2)
        office.lend(1, 2)
        office.lend(0, 2)
        office.report(1, ["paper", "paper"])
        self.assertEqual(office.open_numbers(0), [1, 2, 5, 6])
        office.back(0)
        office.lend(1, 1)
        office.lend(0, 3)
        office.report(0, ["spoilt"])
        office.lend(0, 1)
        self.assertEqual(office.open_numbers(0), [6, 7, 2])
        self.assertEqual(office.open_numbers(1), [1])
        self.assertEqual(office.report(0, ["paper", "paper", "paper"]), [6, 7, 2])

    def test_counts_that_cannot_be(self):
        office = Office(8, 3)
        office.lend(0, 2)
        for many in (0, -1, -SIXTY):
            self.refused(NoCount, office, "lend", 0, many)
        for many in (7, 9, 400, SIXTY):
            self.refused(NoRoom, office, "lend", 0, many)
        self.assertEqual(office.lend(0, 6), (3, 8))

    def test_which_refusal_goes_first(self):
        office = Office(8, 3)
        office.lend(0, 8)
        office.stop(1)
        self.refused(NoDesk, office, "lend", 3, 0)
        self.refused(NoDesk, office, "lend", -1, SIXTY)
        self.refused(Stopped, office, "lend", 1, 0)
        self.refused(Stopped, office, "lend", 1, 9)
        self.refused(NoCount, office, "lend", 2, 0)
        self.refused(NoRoom, office, "lend", 2, 1)

    def test_used_numbers_are_never_lent_again(self):
        office = Office(4, 2)
        office.lend(0, 3)
        office.report(0, ["paper", "spoilt"])
        office.back(0)
        self.assertEqual(office.lend(1, 2), (3, 4))
        self.refused(NoRoom, office, "lend", 0, 1, top=4, desks=2)


class Reporting(OfficeTest):
    """[4]"""

    def test_what_came_of_the_next_open_numbers(self):
        office = Office(8, 3)
        office.lend(1, 4)
        self.assertEqual(office.report(1, ["paper", "spoilt"]), [1, 2])
        self.assertEqual(office.report(1, ["spoilt"]), [3])
        self.assertEqual(states(office, 8), ["paper", "spoilt", "spoilt", "open"] + ["free"] * 4)
        self.assertEqual(office.open_numbers(1), [4])
        self.assertEqual(office.report(1, ["paper"]), [4])
        self.assertEqual(office.open_numbers(1), [])

    def test_a_report_of_nothing(self):
        office = Office(8, 3)
        self.assertEqual(office.report(0, []), [])
        office.lend(0, 2)
        self.assertEqual(office.report(0, []), [])
        self.assertEqual(office.open_numbers(0), [1, 2])

    def test_another_word(self):
        office = Office(8, 3)
        office.lend(0, 3)
        for word in ("", "Paper", "SPOILT", " paper", "paper ", "papers", "pap", "used", "free", "open", "rest"):
            with self.subTest(word=word):
                self.refused(NoWord, office, "report", 0, [word])
                self.refused(NoWord, office, "report", 0, ["paper", "spoilt", word])
                self.refused(NoWord, office, "report", 0, [word, "paper"])

    def test_too_many_words(self):
        office = Office(8, 3)
        self.refused(Short, office, "report", 0, ["paper"])
        office.lend(0, 2)
        office.lend(1, 5)
        self.refused(Short, office, "report", 0, ["paper", "paper", "spoilt"])
        self.refused(Short, office, "report", 0, ["paper"] * 1000)
        self.assertEqual(office.report(0, ["paper", "paper"]), [1, 2])
        self.refused(Short, office, "report", 0, ["paper"])

    def test_which_refusal_goes_first(self):
        office = Office(8, 3)
        office.lend(0, 2)
        office.lend(1, 2)
        office.stop(1)
        self.refused(NoDesk, office, "report", 3, ["odd"])
        self.refused(NoDesk, office, "report", -1, ["paper"])
        self.refused(Stopped, office, "report", 1, ["odd"])
        self.refused(Stopped, office, "report", 1, ["paper"] * 3)
        self.refused(Stopped, office, "report", 1, [])
        self.refused(NoWord, office, "report", 0, ["paper", "paper", "odd"])
        self.refused(NoWord, office, "report", 0, ["paper", "paper", "paper", "odd"])
        self.refused(Short, office, "report", 0, ["paper", "paper", "paper"])

    def test_a_list_of_words_is_neither_changed_nor_kept(self):
        office = Office(8, 3)
        office.lend(0, 3)
        words = ["paper", "spoilt"]
        office.report(0, words)
        self.assertEqual(words, ["paper", "spoilt"])
        words[0] = "spoilt"
        words.clear()
        self.assertEqual(states(office, 8)[:3], ["paper", "spoilt", "open"])

    def test_a_list_that_is_told_may_be_changed(self):
        office = Office(8, 3)
        office.lend(0, 3)
        told = office.report(0, ["paper", "spoilt"])
        before = shown(office, 8, 3)
        told.append(7)
        told[0] = 3
        self.assertEqual(shown(office, 8, 3), before)


class GivingBack(OfficeTest):
    """[4]"""

    def test_open_numbers_are_free_again(self):
        office = Office(8, 3)
        office.lend(0, 4)
        office.lend(1, 1)
        office.report(0, ["paper"])
        self.assertEqual(office.back(0), [2, 3, 4])
        self.assertEqual(states(office, 8), ["paper"] + ["free"] * 3 + ["open"] + ["free"] * 3)
        self.assertEqual(office.open_numbers(0), [])
        self.assertEqual(office.open_numbers(1), [5])
        self.assertEqual(office.back(0), [])
        self.assertEqual(office.lend(2, 3), (2, 4))

    def test_they_are_told_rising(self):
        office = Office(8, 3)
        office.lend(1, 2)
        office.lend(0, 3)
        office.back(1)
        office.lend(0, 1)
        office.lend(0, 2)
        self.assertEqual(office.open_numbers(0), [3, 4, 5, 1, 6, 7])
        self.assertEqual(office.back(0), [1, 3, 4, 5, 6, 7])

    def test_refused(self):
        office = Office(8, 3)
        office.lend(0, 2)
        office.stop(0)
        self.refused(Stopped, office, "back", 0)
        office.settle(0, 1)
        self.refused(Stopped, office, "back", 0)
        self.refused(NoDesk, office, "back", 3)

    def test_a_list_that_is_told_may_be_changed(self):
        office = Office(8, 3)
        office.lend(0, 2)
        office.back(0).append(5)
        self.assertEqual(office.open_numbers(0), [])
        self.assertEqual(office.lend(0, 8), (1, 8))


class Stopping(OfficeTest):
    """[5]"""

    def test_open_numbers_are_the_rest(self):
        office = Office(8, 3)
        office.lend(1, 2)
        office.lend(0, 3)
        office.back(1)
        office.lend(0, 1)
        office.report(0, ["paper"])
        self.assertEqual(office.stop(0), [4, 5, 1])
        self.assertEqual(office.rest(0), [4, 5, 1])
        self.assertEqual(office.open_numbers(0), [])
        self.assertEqual(states(office, 8), ["rest", "free", "paper", "rest", "rest"] + ["free"] * 3)
        self.assertEqual(office.lend(1, 2), (6, 7))

    def test_a_rest_of_no_numbers(self):
        office = Office(8, 3)
        self.assertEqual(office.stop(0), [])
        self.assertEqual(office.rest(0), [])
        self.refused(NoCount, office, "settle", 0, 1)
        self.assertEqual(office.settle(0, 0), [])
        self.refused(NotThere, office, "settle", 0, 0)

    def test_a_stopped_desk_does_nothing_more(self):
        office = Office(8, 3)
        office.lend(0, 2)
        office.stop(0)
        for _ in ("stopped", "settled"):
            self.refused(Stopped, office, "lend", 0, 1)
            self.refused(Stopped, office, "report", 0, ["paper"])
            self.refused(Stopped, office, "back", 0)
            self.refused(Stopped, office, "stop", 0)
            if office.rest(0):
                office.settle(0, 2)
        self.refused(NoDesk, office, "stop", 3)

    def test_the_other_desks_go_on(self):
        office = Office(8, 3)
        office.lend(0, 2)
        office.lend(1, 2)
        office.stop(0)
        self.assertEqual(office.rest(1), [])
        self.assertEqual(office.open_numbers(1), [3, 4])
        self.assertEqual(office.report(1, ["paper"]), [3])
        self.assertEqual(office.back(1), [4])

    def test_lists_that_are_told_may_be_changed(self):
        office = Office(8, 3)
        office.lend(0, 3)
        office.lend(1, 2)
        told = office.stop(0)
        before = shown(office, 8, 3)
        told.clear()
        office.rest(0).reverse()
        office.rest(2).append(1)
        office.open_numbers(0).append(2)
        office.open_numbers(1).pop()
        self.assertEqual(shown(office, 8, 3), before)


class Finding(OfficeTest):
    """[5]"""

    def test_all_ahead_in_the_rest_were_used(self):
        office = with_rests([4], top=8, desks=3)
        self.assertIsNone(office.found(3))
        self.assertEqual(states(office, 8)[:5], ["used", "used", "paper", "rest", "free"])
        office.found(1)
        self.assertEqual(states(office, 8)[:5], ["paper", "used", "paper", "rest", "free"])
        office.found(4)
        self.assertEqual(states(office, 8)[:5], ["paper", "used", "paper", "paper", "free"])
        self.assertEqual(office.rest(0), [1, 2, 3, 4])

    def test_ahead_is_in_the_order_of_use(self):
        office = Office(8, 3)
        office.lend(1, 2)
        office.lend(0, 2)
        office.back(1)
        office.lend(0, 2)
        office.lend(1, 1)
        office.stop(0)
        office.found(1)
        self.assertEqual(states(office, 8)[:5], ["paper", "rest", "used", "used", "open"])

    def test_other_rests_stay_as_they_are(self):
        office = with_rests([2, 2, 2], top=8, desks=3)
        office.found(4)
        self.assertEqual(states(office, 8), ["rest"] * 2 + ["used", "paper"] + ["rest"] * 2 + ["free"] * 2)

    def test_no_number_of_the_office(self):
        office = with_rests([2], top=8, desks=3)
        for number in (0, -1, 9, SIXTY, -SIXTY):
            self.refused(NoNumber, office, "found", number)

    def test_found_twice(self):
        office = Office(8, 3)
        office.lend(0, 4)
        office.report(0, ["paper", "spoilt"])
        self.refused(Twice, office, "found", 1)
        office.stop(0)
        office.found(4)
        self.refused(Twice, office, "found", 4)
        self.refused(Twice, office, "found", 1)
        office.found(3)
        self.refused(Twice, office, "found", 3)
        office.settle(0, 2)
        self.refused(Twice, office, "found", 3)
        self.refused(Twice, office, "found", 4)

    def test_in_no_rest(self):
        office = settled_office()
        self.assertEqual(
            states(office, 8), ["paper", "used", "paper", "free", "spoilt", "open", "free", "free"])
        for number in (2, 4, 5, 6, 7, 8):
            self.refused(NotThere, office, "found", number)
        for number in (1, 3):
            self.refused(Twice, office, "found", number)


class Settling(OfficeTest):
    """[5]"""

    def test_how_many_were_used(self):
        office = with_rests([4], top=8, desks=3)
        self.assertEqual(office.settle(0, 2), [3, 4])
        self.assertEqual(states(office, 8), ["used", "used"] + ["free"] * 6)
        self.assertEqual(office.rest(0), [])
        self.assertEqual(office.open_numbers(0), [])
        self.assertEqual(office.lend(1, 6), (3, 8))

    def test_none_and_all(self):
        office = with_rests([3], top=8, desks=3)
        self.assertEqual(office.settle(0, 0), [1, 2, 3])
        self.assertEqual(states(office, 8), ["free"] * 8)
        office = with_rests([3], top=8, desks=3)
        self.assertEqual(office.settle(0, 3), [])
        self.assertEqual(states(office, 8), ["used"] * 3 + ["free"] * 5)

    def test_those_found_are_papers(self):
        office = with_rests([6], [2, 4], top=8, desks=3)
        self.refused(NoCount, office, "settle", 0, 3)
        self.assertEqual(office.settle(0, 5), [6])
        self.assertEqual(states(office, 8), ["used", "paper", "used", "paper", "used"] + ["free"] * 3)

    def test_no_more_than_up_to_the_last_one_found(self):
        office = with_rests([6], [4, 2], top=8, desks=3)
        self.assertEqual(office.settle(0, 4), [5, 6])
        self.assertEqual(states(office, 8), ["used", "paper", "used", "paper"] + ["free"] * 4)

    def test_the_free_ones_are_told_rising(self):
        office = Office(8, 3)
        office.lend(1, 2)
        office.lend(0, 2)
        office.back(1)
        office.lend(0, 2)
        self.assertEqual(office.stop(0), [3, 4, 1, 2])
        self.assertEqual(office.settle(0, 1), [1, 2, 4])
        self.assertEqual(states(office, 8), ["free", "free", "used"] + ["free"] * 5)

    def test_counts_that_cannot_be(self):
        office = with_rests([4, 2], [2], top=8, desks=3)
        for many in (1, 0, -1, -SIXTY, 5, 6, SIXTY):
            self.refused(NoCount, office, "settle", 0, many)
        for many in (-1, 3, SIXTY):
            self.refused(NoCount, office, "settle", 1, many)
        self.assertEqual(office.settle(1, 0), [5, 6])

    def test_no_rest_to_settle(self):
        office = Office(8, 3)
        office.lend(0, 2)
        self.refused(NotThere, office, "settle", 0, 1)
        self.refused(NotThere, office, "settle", 1, 0)
        office.stop(0)
        office.settle(0, 1)
        self.refused(NotThere, office, "settle", 0, 1)
        self.refused(NotThere, office, "settle", 0, 0)

    def test_which_refusal_goes_first(self):
        office = Office(8, 3)
        office.lend(0, 2)
        self.refused(NoDesk, office, "settle", 3, SIXTY)
        self.refused(NoDesk, office, "settle", -1, -1)
        self.refused(NotThere, office, "settle", 0, -1)
        self.refused(NotThere, office, "settle", 0, SIXTY)

    def test_a_list_that_is_told_may_be_changed(self):
        office = with_rests([4], top=8, desks=3)
        told = office.settle(0, 1)
        before = shown(office, 8, 3)
        told.append(1)
        told[0] = 8
        self.assertEqual(shown(office, 8, 3), before)


if __name__ == "__main__":
    unittest.main()
