"""The office: its numbers, the blocks it lends to desks, and what came of them."""

from numbergaps.errors import (
    NoCount, NoDesk, NoNumber, NoOffice, NoRoom, NotThere, NoWord, Short, Stopped, Twice,
)

MOST_NUMBERS = 400
MOST_DESKS = 6

FREE = "free"
OPEN = "open"
PAPER = "paper"
SPOILT = "spoilt"
USED = "used"
REST = "rest"

GOING = "going"
STOPPED = "stopped"
SETTLED = "settled"


class Office:
    """An office with the numbers from 1 to its top and the desks from 0 on.

    Each number has a state. A number that is lent also has a holder, and stands
    among the lent numbers of that desk, in the order of use: these are the open
    numbers of a desk that goes on, and the rest of one that has stopped.
    """

    def __init__(self, top, desks):
        if top < 1 or top > MOST_NUMBERS:
            raise NoOffice(f"no office has {top} numbers")
        if desks < 1 or desks > MOST_DESKS:
            raise NoOffice(f"no office has {desks} desks")
        self._states = {number: FREE for number in range(1, top + 1)}
        self._holders = {}
        self._stages = [GOING for desk in range(desks)]
        self._lent = [[] for desk in range(desks)]

    def lend(self, desk, many):
        """Lends the desk so many free numbers, one behind the other: (first, last)."""
        self._check_going(desk)
        if many < 1:
            raise NoCount(f"no block has {many} numbers")
        first = self._first_of_free(many)
        if first is None:
            raise NoRoom(f"there are no {many} free numbers one behind the other")
        last = first + many - 1
        for number in range(first, last + 1):
            self._states[number] = OPEN
            self._holders[number] = desk
            self._lent[desk].append(number)
        return (first, last)

    def report(self, desk, words):
        """Tells what came of the desk's next open numbers: the list of these numbers."""
        self._check_going(desk)
        for word in words:
            if word != PAPER and word != SPOILT:
                raise NoWord("a word is neither paper nor spoilt")
        if len(words) > len(self._lent[desk]):
            raise Short(f"desk {desk} has fewer open numbers")
        numbers = self._lent[desk][:len(words)]
        for number, word in zip(numbers, words):
            self._let_go(number, word)
        self._lent[desk] = self._lent[desk][len(words):]
        return numbers

    def back(self, desk):
        """Gives all open numbers of the desk back: the list of them, rising."""
        self._check_going(desk)
        numbers = self._lent[desk]
        for number in numbers:
            self._let_go(number, FREE)
        self._lent[desk] = []
        return sorted(numbers)

    def stop(self, desk):
        """Stops the desk: its open numbers are its rest from now on, which is told."""
        self._check_going(desk)
        self._stages[desk] = STOPPED
        for number in self._lent[desk]:
            self._states[number] = REST
        return list(self._lent[desk])

    def found(self, number):
        """Tells that a paper was found with this number of a rest."""
        if self.state(number) == PAPER:
            raise Twice(f"number {number} is known to be a paper's")
        desk = self.holder(number)
        if desk is None or not self.has_rest(desk):
            raise NotThere(f"number {number} is in no rest")
        rest = self._lent[desk]
        self._use(rest[:rest.index(number)])
        self._states[number] = PAPER

    def settle(self, desk, many):
        """Tells how many of the desk's rest were used: the list of the others, rising."""
        self._check_desk(desk)
        if not self.has_rest(desk):
            raise NotThere(f"desk {desk} has no rest")
        rest = self._lent[desk]
        if many < self.least_used(desk) or many > len(rest):
            raise NoCount(f"{many} of the rest of desk {desk} cannot have been used")
        unused = rest[many:]
        self._use(rest[:many])
        for number in rest[:many]:
            self._let_go(number, self._states[number])
        for number in unused:
            self._let_go(number, FREE)
        self._stages[desk] = SETTLED
        self._lent[desk] = []
        return sorted(unused)

    def open_numbers(self, desk):
        """The desk's open numbers in the order of use; none if it has stopped."""
        self._check_desk(desk)
        if self._stages[desk] != GOING:
            return []
        return list(self._lent[desk])

    def rest(self, desk):
        """The desk's rest in the order of use; no numbers if it has none."""
        self._check_desk(desk)
        if not self.has_rest(desk):
            return []
        return list(self._lent[desk])

    def has_rest(self, desk):
        """Whether the desk has stopped and is not settled; its rest may have no numbers."""
        return self._stages[desk] == STOPPED

    def desks_with_rest(self):
        """The desks that have a rest, rising."""
        return [desk for desk in range(len(self._stages)) if self.has_rest(desk)]

    def least_used(self, desk):
        """How many of the desk's rest are known to be used: those up to the last one found."""
        return len([number for number in self.rest(desk) if self._states[number] != REST])

    def numbers(self):
        """All numbers of the office, rising."""
        return list(self._states)

    def state(self, number):
        """The state of the number."""
        if number not in self._states:
            raise NoNumber(f"the office has no number {number}")
        return self._states[number]

    def holder(self, number):
        """The desk to which the number is lent, or None."""
        return self._holders.get(number)

    def _check_desk(self, desk):
        if desk < 0 or desk >= len(self._stages):
            raise NoDesk(f"the office has no desk {desk}")

    def _check_going(self, desk):
        self._check_desk(desk)
        if self._stages[desk] != GOING:
            raise Stopped(f"desk {desk} has stopped")

    def _first_of_free(self, many):
        """The least number from which so many free ones follow, or None."""
        run = 0
        for number in self.numbers():
            run = run + 1 if self._states[number] == FREE else 0
            if run == many:
                return number - many + 1
        return None

    def _let_go(self, number, state):
        """Gives the number its state and takes it from the desk that holds it."""
        self._states[number] = state
        del self._holders[number]

    def _use(self, numbers):
        """Marks numbers of a rest as used, but for the papers that were found among them."""
        for number in numbers:
            if self._states[number] == REST:
                self._states[number] = USED
