"""The states of the numbers, and the gaps between the papers."""

from numbergaps.office import PAPER, SPOILT, USED


def state_of(office, number):
    """The state of the number: free, open, paper, spoilt, used or rest."""
    return office.state(number)


def gaps(office):
    """The numbers without a paper below the greatest one that was surely used.

    They are tuples (number, state, desk), rising; the desk is None for a number
    that no desk has.
    """
    greatest = _greatest_used(office)
    return [
        (number, state_of(office, number), office.holder(number))
        for number in range(1, greatest)
        if state_of(office, number) != PAPER
    ]


def _greatest_used(office):
    """The greatest number that is a paper, spoilt or used; 0 if there is none."""
    used = [number for number in office.numbers() if state_of(office, number) in (PAPER, SPOILT, USED)]
    return max(used, default=0)
