"""What an auditor can be sure of: how many numbers of each rest may have been used.

What is counted is how many numbers were used in all rests together; None if the
doors were not counted.
"""

from numbergaps.office import PAPER, SPOILT, USED
from numbergaps.states import state_of
from numbergaps.sums import narrowed, tuples_between

SURELY_USED = "used"
SURELY_UNUSED = "unused"


def bounds(office, counted):
    """A tuple (desk, low, high) for each rest: the least and the greatest that any world has."""
    spans = narrowed(_lows(office), _highs(office), counted)
    return [(desk, low, high) for desk, (low, high) in zip(office.desks_with_rest(), spans)]


def worlds(office, counted):
    """All worlds, rising: tuples that tell of each rest how many of it were used."""
    return tuples_between(_lows(office), _highs(office), counted)


def sure(office, number, counted):
    """Whether the number is used in every world ("used"), in none ("unused"), or neither."""
    state = state_of(office, number)
    desk = office.holder(number)
    for resting, low, high in bounds(office, counted):
        if resting == desk:
            return _sure_of_place(office.rest(desk).index(number), low, high)
    if state in (PAPER, SPOILT, USED):
        return SURELY_USED
    return SURELY_UNUSED


def _sure_of_place(place, low, high):
    """What is sure of the number at a place (from 0) of a rest of which low to high were used."""
    if place < low:
        return SURELY_USED
    if place >= high:
        return SURELY_UNUSED
    return None


def _lows(office):
    """The least number used of each rest."""
    return [office.least_used(desk) for desk in office.desks_with_rest()]


def _highs(office):
    """The greatest number used of each rest: as many as it has."""
    return [len(office.rest(desk)) for desk in office.desks_with_rest()]
