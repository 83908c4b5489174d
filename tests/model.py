"""A second office, kept as the document words it: what was done is noted, the states follow."""


class Model:
    """Answers each deed by ("told", what) or by the name of the refusal."""

    def __init__(self, top, desks):
        self.top = top
        self.open = {desk: () for desk in range(desks)}  # desks that go on
        self.rests = {}  # desks that have a rest
        self.desks = desks
        self.papers = ()
        self.spoilt = ()
        self.found_ones = ()
        self.settled_used = ()

    def copy(self):
        other = Model(self.top, self.desks)
        other.__dict__.update(self.__dict__)
        other.open = dict(self.open)
        other.rests = dict(self.rests)
        return other

    def key(self):
        return (
            tuple(sorted(self.open.items())), tuple(sorted(self.rests.items())),
            tuple(sorted(self.papers)), tuple(sorted(self.spoilt)),
            tuple(sorted(self.found_ones)), tuple(sorted(self.settled_used)),
        )

    def lent(self):
        blocks = list(self.open.values()) + list(self.rests.values())
        return [number for block in blocks for number in block]

    def used(self):
        return [*self.papers, *self.spoilt, *self.found_ones, *self.settled_used]

    def is_free(self, number):
        return number not in self.lent() and number not in self.used()

    def up_to_last_found(self, desk):
        rest = self.rests[desk]
        return max([rest.index(one) + 1 for one in self.found_ones if one in rest], default=0)

    def state(self, number):
        if number in self.papers or number in self.found_ones:
            return "paper"
        if number in self.spoilt:
            return "spoilt"
        if number in self.settled_used:
            return "used"
        for rest in self.open.values():
            if number in rest:
                return "open"
        for desk, rest in self.rests.items():
            if number in rest:
                return "used" if rest.index(number) < self.up_to_last_found(desk) else "rest"
        return "free"

    def states(self):
        return [self.state(number) for number in range(1, self.top + 1)]

    def holder(self, number):
        for desk, block in [*self.open.items(), *self.rests.items()]:
            if number in block:
                return desk
        return None

    def gaps(self):
        told = self.states()
        last = max([at + 1 for at, state in enumerate(told) if state in ("paper", "spoilt", "used")], default=0)
        return [(at + 1, state, self.holder(at + 1))
                for at, state in enumerate(told) if at + 1 < last and state != "paper"]

    def bounds(self):
        return [(desk, self.up_to_last_found(desk), len(self.rests[desk])) for desk in sorted(self.rests)]

    def shown(self):
        desks = range(self.desks)
        return (
            self.states(),
            [list(self.open.get(desk, ())) for desk in desks],
            [list(self.rests.get(desk, ())) for desk in desks],
            self.gaps(),
            self.bounds(),
        )

    def going_refusal(self, desk):
        if desk not in range(self.desks):
            return "NoDesk"
        return None if desk in self.open else "Stopped"

    def lend(self, desk, many):
        if self.going_refusal(desk):
            return self.going_refusal(desk)
        if many < 1:
            return "NoCount"
        for first in range(1, self.top - many + 2):
            block = tuple(range(first, first + many))
            if all(self.is_free(number) for number in block):
                self.open[desk] += block
                return ("told", (block[0], block[-1]))
        return "NoRoom"

    def report(self, desk, words):
        if self.going_refusal(desk):
            return self.going_refusal(desk)
        if any(word not in ("paper", "spoilt") for word in words):
            return "NoWord"
        if len(words) > len(self.open[desk]):
            return "Short"
        numbers = self.open[desk][:len(words)]
        self.open[desk] = self.open[desk][len(words):]
        self.papers += tuple(one for one, word in zip(numbers, words) if word == "paper")
        self.spoilt += tuple(one for one, word in zip(numbers, words) if word == "spoilt")
        return ("told", list(numbers))

    def back(self, desk):
        if self.going_refusal(desk):
            return self.going_refusal(desk)
        told = sorted(self.open[desk])
        self.open[desk] = ()
        return ("told", told)

    def stop(self, desk):
        if self.going_refusal(desk):
            return self.going_refusal(desk)
        self.rests[desk] = self.open.pop(desk)
        return ("told", list(self.rests[desk]))

    def found(self, number):
        if number not in range(1, self.top + 1):
            return "NoNumber"
        if number in self.papers or number in self.found_ones:
            return "Twice"
        if not any(number in rest for rest in self.rests.values()):
            return "NotThere"
        self.found_ones += (number,)
        return ("told", None)

    def settle(self, desk, many):
        if desk not in range(self.desks):
            return "NoDesk"
        if desk not in self.rests:
            return "NotThere"
        if not self.up_to_last_found(desk) <= many <= len(self.rests[desk]):
            return "NoCount"
        rest = self.rests.pop(desk)
        self.settled_used += tuple(one for one in rest[:many] if one not in self.found_ones)
        return ("told", sorted(rest[many:]))
