"""Points [2] to [8] over whole histories, beside the model of tests/model.py, and point [6]."""

import copy
import random
import unittest

from numbergaps.errors import GapError
from numbergaps.office import Office
from tests.helpers import shown
from tests.model import Model


def done(office, deed, told):
    """What the office answers, as the model answers."""
    try:
        return ("told", getattr(office, deed)(*told))
    except GapError as refusal:
        return type(refusal).__name__


def small_deeds(top, desks):
    """Deeds of each kind, some of which are refused whatever went before."""
    deeds = [("found", (number,)) for number in range(0, top + 2)]
    for desk in range(-1, desks + 1):
        deeds += [("lend", (desk, many)) for many in range(0, top + 2)]
        deeds += [("settle", (desk, many)) for many in range(-1, top + 2)]
        deeds += [("back", (desk,)), ("stop", (desk,))]
        for words in ([], ["paper"], ["spoilt"], ["paper", "spoilt"], ["paper", "odd"]):
            deeds.append(("report", (desk, words)))
    return deeds


def random_deed(chance, top, desks):
    desk = chance.randrange(desks)
    deed = chance.choice(["lend"] * 6 + ["report"] * 8 + ["back"] * 2 + ["stop", "settle"] + ["found"] * 6)
    if deed == "lend":
        return deed, (desk, chance.randint(1, 5))
    if deed == "report":
        return deed, (desk, chance.choices(["paper", "spoilt"], k=chance.randint(1, 4)))
    if deed == "found":
        return deed, (chance.randint(1, top),)
    if deed == "settle":
        return deed, (desk, chance.randint(0, 4))
    return deed, (desk,)


class Histories(unittest.TestCase):
    def walk_all(self, top, desks):
        """Does every deed in every office that can be reached."""
        deeds = small_deeds(top, desks)
        start = Model(top, desks)
        waiting = [(Office(top, desks), start)]
        reached = {start.key()}
        while waiting:
            office, model = waiting.pop()
            before = shown(office, top, desks)
            for deed, told in deeds:
                model_behind = model.copy()
                office_behind = copy.deepcopy(office)
                answer = getattr(model_behind, deed)(*told)
                self.assertEqual(done(office_behind, deed, told), answer, (model.key(), deed, told))
                behind = shown(office_behind, top, desks)
                self.assertEqual(behind, model_behind.shown(), (model.key(), deed, told))
                if isinstance(answer, str):
                    self.assertEqual(behind, before)
                elif model_behind.key() not in reached:
                    reached.add(model_behind.key())
                    waiting.append((office_behind, model_behind))
        return len(reached)

    def test_every_history_of_small_offices(self):
        self.assertGreater(self.walk_all(1, 1), 5)
        self.assertGreater(self.walk_all(2, 2), 50)
        self.assertGreater(self.walk_all(4, 1), 50)

    def test_long_histories(self):
        for seed in range(40):
            chance = random.Random(seed)
            top, desks = chance.choice([(12, 2), (30, 4), (60, 6)])
            office, model = Office(top, desks), Model(top, desks)
            for _ in range(60):
                deed, told = random_deed(chance, top, desks)
                self.assertEqual(done(office, deed, told), getattr(model, deed)(*told), (seed, deed, told))
                self.assertEqual(shown(office, top, desks), model.shown(), (seed, deed, told))

    def test_no_number_is_used_twice(self):
        """[6]: a used number stays used, and each number is lent to one desk at the most."""
        for seed in range(40):
            chance = random.Random(1000 + seed)
            office = Office(20, 4)
            used = {}
            for _ in range(80):
                deed, told = random_deed(chance, 20, 4)
                answer = done(office, deed, told)
                self.once_at_the_most(office, used, deed, answer)

    def once_at_the_most(self, office, used, deed, answer):
        states, opens, rests, _, _ = shown(office, 20, 4)
        lent = [number for block in opens + rests for number in block]
        self.assertEqual(len(lent), len(set(lent)))
        if deed == "report" and not isinstance(answer, str):
            for number in answer[1]:
                self.assertNotIn(number, used)
        for number, state in enumerate(states, 1):
            if number in used:
                self.assertIn(state, (used[number], "paper" if used[number] == "used" else used[number]))
            if state in ("paper", "spoilt", "used"):
                used[number] = state
            self.assertEqual(state == "free", number not in lent and number not in used)


if __name__ == "__main__":
    unittest.main()
