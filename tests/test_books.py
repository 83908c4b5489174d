"""Point [16]: books of deeds, their answers, and the office that is told with them."""

import random
import unittest

from numbergaps.audit import bounds, sure, worlds
from numbergaps.books import played
from numbergaps.errors import GapError, NoOffice
from numbergaps.office import Office
from numbergaps.states import gaps
from tests.helpers import SIXTY, shown, states
from tests.model import Model

# An office of eight numbers and three desks, with all kinds of states.
BEGIN = ["lend 0 3", "lend 1 2", "report 0 paper", "stop 0", "found 2"]
ANSWERS = ["1-3", "4-5", "done", "done", "done"]


class BookTest(unittest.TestCase):
    def answers(self, book, top=8, desks=3):
        """What played answers; the book stays as it was."""
        before = list(book)
        told = played(top, desks, book)
        self.assertIs(type(told), tuple)
        answers, office = told
        self.assertIs(type(answers), list)
        self.assertIs(type(office), Office)
        self.assertEqual(book, before)
        return answers

    def behind_begin(self, text):
        """What the deed answers behind BEGIN; what is refused changes nothing."""
        answers = self.answers(BEGIN + [text])
        self.assertEqual(answers[:-1], ANSWERS)
        if answers[-1][0].isupper():
            begun = shown(played(8, 3, BEGIN)[1], 8, 3)
            self.assertEqual(shown(played(8, 3, BEGIN + [text])[1], 8, 3), begun)
        return answers[-1]


class Deeds(BookTest):
    def test_an_empty_book(self):
        answers, office = played(8, 3, [])
        self.assertEqual(answers, [])
        self.assertEqual(states(office, 8), ["free"] * 8)
        self.assertEqual([office.open_numbers(desk) for desk in range(3)], [[]] * 3)

    def test_every_kind_of_deed(self):
        answers, office = played(12, 3, [
            "lend 0 4", "lend 2 3", "lend 1 1", "report 2 paper spoilt", "report 0 spoilt", "back 2",
            "stop 0", "found 3", "settle 0 2", "stop 1", "lend 2 1", "settle 1 0",
        ])
        self.assertEqual(answers, [
            "1-4", "5-7", "8-8", "done", "done", "done",
            "done", "done", "done", "done", "4-4", "done",
        ])
        self.assertEqual(states(office, 12), [
            "spoilt", "used", "paper", "open", "paper", "spoilt", "free", "free", "free", "free", "free", "free",
        ])

    def test_blocks_that_were_lent(self):
        self.assertEqual(self.answers(["lend 0 1", "lend 5 398", "lend 3 1"], 400, 6), ["1-1", "2-399", "400-400"])

    def test_a_long_report(self):
        words = ["paper", "spoilt"] * 200
        answers, office = played(400, 1, ["lend 0 400", "report 0 " + " ".join(words)])
        self.assertEqual(answers, ["1-400", "done"])
        self.assertEqual(states(office, 400), words)
        self.assertEqual(self.answers(["lend 0 8", "report 0" + " spoilt" * 1000]), ["1-8", "Short"])

    def test_each_refusal(self):
        for text, answer in [
            ("lend 3 1", "NoDesk"), ("report 3 paper", "NoDesk"), ("back 3", "NoDesk"), ("stop 3", "NoDesk"),
            ("settle 3 0", "NoDesk"),
            ("lend 0 1", "Stopped"), ("report 0 spoilt", "Stopped"), ("back 0", "Stopped"), ("stop 0", "Stopped"),
            ("lend 1 0", "NoCount"), ("settle 0 0", "NoCount"), ("settle 0 3", "NoCount"),
            ("lend 1 4", "NoRoom"),
            ("report 2 paper", "Short"), ("report 1 paper paper spoilt", "Short"),
            ("found 0", "NoNumber"), ("found 9", "NoNumber"),
            ("found 1", "Twice"), ("found 2", "Twice"),
            ("found 4", "NotThere"), ("found 8", "NotThere"), ("settle 1 0", "NotThere"), ("settle 2 0", "NotThere"),
        ]:
            with self.subTest(text):
                self.assertEqual(self.behind_begin(text), answer)

    def test_which_refusal_goes_first(self):
        for text, answer in [
            ("lend 3 0", "NoDesk"), ("lend 0 0", "Stopped"), ("lend 0 9", "Stopped"), ("settle 3 9", "NoDesk"),
            ("settle 1 9", "NotThere"), ("report 3" + " paper" * 9, "NoDesk"), ("report 0" + " paper" * 9, "Stopped"),
        ]:
            self.assertEqual(self.behind_begin(text), answer)

    def test_the_deeds_behind_a_refusal_are_done(self):
        self.assertEqual(
            self.answers(["lend 0 9", "lend 0 2", "odd", "report 0 paper paper paper", "report 0 paper", "stop 5", "stop 0"]),
            ["NoRoom", "1-2", "BadRow", "Short", "done", "NoDesk", "done"])

    def test_no_office(self):
        for top, desks in [(0, 1), (401, 1), (1, 0), (1, 7), (-1, 3), (SIXTY, SIXTY)]:
            for book in ([], ["lend 0 1"], ["odd"]):
                with self.assertRaises(NoOffice) as caught:
                    played(top, desks, book)
                self.assertIs(type(caught.exception), NoOffice)


class BadRows(BookTest):
    def bad(self, *texts):
        for text in texts:
            with self.subTest(text):
                self.assertEqual(self.behind_begin(text), "BadRow")

    def test_what_is_no_deed(self):
        self.bad("", " ", "  ", "odd", "0", "1 2", "-", "lend", "report", "back", "stop", "found", "settle",
                 "open_numbers 0", "rest 0", "lent 1 1", "len 1 1", "lends 1 1", "paper 1", "played 8 3", "__init__ 1 1")

    def test_too_few_or_too_many_words(self):
        self.bad("lend 1", "lend 1 1 1", "report", "report 1", "back", "back 1 1", "stop", "stop 1 1",
                 "found", "found 3 3", "settle 0", "settle 0 2 2")

    def test_a_blank_more_or_less(self):
        for text in ("lend 1 1", "report 1 paper spoilt", "back 1", "stop 1", "found 3", "settle 0 2"):
            self.assertIn(self.behind_begin(text), ("done", "6-6"))
            self.bad(" " + text, text + " ", text.replace(" ", "  "), text.replace(" ", ""), text.replace(" ", "  ", 1))
            self.bad(text.replace(" ", ",", 1), text.replace(" ", ", ", 1), text.replace(" ", "_", 1))
        self.bad("lend 11", "lend1 1", "report 1 paperspoilt", "report 1paper", "report 1  paper", "report 1 paper  paper",
                 "report 1 ", "report  paper", "lend 1 ", "lend  1")

    def test_other_cases(self):
        self.bad("Lend 1 1", "LEND 1 1", "lenD 1 1", "Report 1 paper", "Back 1", "STOP 1", "fOund 3", "Settle 0 2")
        self.bad("report 1 Paper", "report 1 PAPER", "report 1 Spoilt", "report 1 paper SPOILT")

    def test_another_word(self):
        self.bad("report 1 used", "report 1 odd", "report 1 pape", "report 1 papers", "report 1 paper,spoilt",
                 "report 1 spoiled", "report 1 paper odd", "report 1 odd paper", "report 1 1", "report paper 1",
                 "report paper", "report 1 paper 1", "report 1 paper free", "report 1 pa per")

    def test_a_bad_row_goes_ahead_of_a_refusal(self):
        self.bad("report 3 odd", "report 0 odd", "report 2 paper paper odd", "report 9", "lend 9 -1", "lend 0 x",
                 "settle 9 01", "found 09")

    def test_a_needless_nought(self):
        self.bad("lend 01 1", "lend 1 01", "lend 00 1", "lend 1 00", "report 01 paper", "report 00 paper", "back 01",
                 "stop 001", "found 03", "settle 00 2", "settle 0 02", "found 0003")
        self.assertEqual(self.behind_begin("lend 1 0"), "NoCount")
        self.assertEqual(self.behind_begin("found 0"), "NoNumber")
        self.assertEqual(self.behind_begin("back 0"), "Stopped")
        self.assertEqual(self.answers(["lend 0 10", "found 10"], 20), ["1-10", "NotThere"])

    def test_a_sign_ahead_of_a_number(self):
        self.bad("lend 1 +1", "lend +1 1", "lend 1 -1", "lend -1 1", "report -0 paper", "report +1 paper", "back -1",
                 "stop +1", "found -3", "found +3", "settle 0 +2", "settle 0 -2", "settle -0 2", "found -0")

    def test_signs_that_are_no_figures(self):
        self.bad("lend 1 x", "lend one 1", "lend 1 1.", "lend 1 1.0", "lend 1 1e0", "lend 1 0x1", "lend 1 1_0", "lend 1_0 1",
                 "found a", "found 3a", "found ~", "found 3/", "found 3:", "stop !", "back (1)", "settle 0 '2'", "stop 1;",
                 "lend 1 1,0", "found 0b1", "found \u00b3", "found \u0663", "stop 1\n", "stop\t1", "\nstop 1", "lend 1\n1")

    def test_numbers_of_sixty_figures(self):
        many = str(SIXTY)
        ten = "1" + "0" * 59
        for number in (many, ten):
            self.assertEqual(len(number), 60)
            self.assertEqual(self.behind_begin("lend " + number + " 1"), "NoDesk")
            self.assertEqual(self.behind_begin("lend 1 " + number), "NoRoom")
            self.assertEqual(self.behind_begin("report " + number + " paper"), "NoDesk")
            self.assertEqual(self.behind_begin("back " + number), "NoDesk")
            self.assertEqual(self.behind_begin("stop " + number), "NoDesk")
            self.assertEqual(self.behind_begin("found " + number), "NoNumber")
            self.assertEqual(self.behind_begin("settle " + number + " 1"), "NoDesk")
            self.assertEqual(self.behind_begin("settle 0 " + number), "NoCount")
            self.assertEqual(self.behind_begin("settle 1 " + number), "NotThere")

    def test_numbers_of_more_figures(self):
        for number in ("1" + "0" * 60, "9" * 61, "0" * 61, "0" * 60 + "1", "1" * 7900):
            self.bad("lend " + number + " 1", "lend 1 " + number, "report " + number + " paper", "back " + number,
                     "stop " + number, "found " + number, "settle " + number + " 1", "settle 0 " + number)


class Offices(BookTest):
    def test_an_office_that_is_used_further(self):
        answers, office = played(8, 3, BEGIN)
        self.assertEqual(answers, ANSWERS)
        self.assertEqual(office.rest(0), [2, 3])
        self.assertEqual(office.open_numbers(1), [4, 5])
        self.assertEqual(gaps(office), [])
        self.assertEqual(bounds(office, None), [(0, 1, 2)])
        self.assertEqual(worlds(office, None), [(1,), (2,)])
        self.assertIsNone(sure(office, 3, None))
        self.assertEqual(office.report(1, ["spoilt"]), [4])
        self.assertEqual(gaps(office), [(3, "rest", 0)])
        self.assertEqual(office.lend(2, 2), (6, 7))
        self.assertEqual(office.settle(0, 1), [3])
        self.assertEqual(office.lend(2, 1), (3, 3))
        self.assertEqual(office.back(2), [3, 6, 7])
        self.assertEqual(states(office, 8), ["paper", "paper", "free", "spoilt", "open", "free", "free", "free"])

    def test_each_book_has_an_office_of_its_own(self):
        _, one = played(8, 3, BEGIN)
        _, other = played(8, 3, BEGIN)
        before = shown(other, 8, 3)
        one.lend(2, 2)
        one.settle(0, 2)
        self.assertEqual(shown(other, 8, 3), before)

    def test_lists_may_be_changed(self):
        book = list(BEGIN)
        answers, office = played(8, 3, book)
        before = shown(office, 8, 3)
        answers.clear()
        book.clear()
        self.assertEqual(shown(office, 8, 3), before)
        self.assertEqual(played(8, 3, BEGIN)[0], ANSWERS)

    def test_long_books(self):
        """Beside an office that is asked straight, and beside the model."""
        for seed in range(60):
            chance = random.Random(seed)
            top, desks = chance.choice([(6, 1), (12, 2), (40, 6)])
            book = [random_text(chance, top, desks) for _ in range(80)]
            office, model = Office(top, desks), Model(top, desks)
            wanted = [self.done(office, model, text.split()) for text in book]
            answers, told = played(top, desks, book)
            self.assertEqual(answers, wanted)
            self.assertEqual(shown(told, top, desks), shown(office, top, desks))
            self.assertEqual(shown(told, top, desks), model.shown())

    def done(self, office, model, words):
        deed = words[0]
        told = [int(word) if word.isdigit() else word for word in words[1:]]
        if deed == "report":
            told = [told[0], told[1:]]
        answer = getattr(model, deed)(*told)
        try:
            back = getattr(office, deed)(*told)
        except GapError as refusal:
            self.assertEqual(answer, type(refusal).__name__)
            return answer
        self.assertEqual(answer, ("told", back))
        return "-".join(str(number) for number in back) if deed == "lend" else "done"


def random_text(chance, top, desks):
    """A deed that may well be refused."""
    desk = chance.randint(0, desks) if chance.random() < 0.1 else chance.randrange(desks)
    deed = chance.choice(["lend"] * 6 + ["report"] * 8 + ["back", "stop"] + ["settle"] * 2 + ["found"] * 6)
    if deed in ("lend", "settle"):
        return f"{deed} {desk} {chance.randint(0, 4)}"
    if deed == "report":
        return " ".join([deed, str(desk), *chance.choices(["paper", "spoilt"], k=chance.randint(1, 3))])
    if deed == "found":
        return f"{deed} {chance.randint(0, top + 1)}"
    return f"{deed} {desk}"


if __name__ == "__main__":
    unittest.main()
