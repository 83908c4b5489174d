"""What several tests need: offices that are made ready, and all that can be seen of one."""

from numbergaps.audit import bounds
from numbergaps.office import Office
from numbergaps.states import gaps, state_of

SIXTY = 10 ** 60 - 1  # the greatest number of sixty figures


def states(office, top):
    """The states of all numbers, as one list."""
    return [state_of(office, number) for number in range(1, top + 1)]


def shown(office, top, desks):
    """All that an office shows: equal before and behind a deed that is refused.

    The lists are copied, lest one that the office keeps should change together with it.
    """
    return (
        states(office, top),
        [list(office.open_numbers(desk)) for desk in range(desks)],
        [list(office.rest(desk)) for desk in range(desks)],
        list(gaps(office)),
        list(bounds(office, None)),
    )


def with_rests(sizes, finds=(), top=400, desks=6):
    """An office whose desks 0, 1 .. have stopped with rests of these sizes, one behind the other."""
    office = Office(top, desks)
    for desk, size in enumerate(sizes):
        if size > 0:
            office.lend(desk, size)
        office.stop(desk)
    for number in finds:
        office.found(number)
    return office


def settled_office():
    """Eight numbers of which one was settled as used and one found; desk 1 goes on.

    1 paper, 2 used by settle, 3 paper (found), 4 free again, 5 spoilt, 6 open, 7 and 8 free.
    """
    office = Office(8, 3)
    office.lend(0, 4)
    office.report(0, ["paper"])
    office.lend(1, 2)
    office.report(1, ["spoilt"])
    office.stop(0)
    office.found(3)
    office.settle(0, 2)
    return office

# What is handed in as a box and is none, whatever the total.
NO_BOXES = [
    ((), (), None),
    ((), (1,), None),
    ((1,), (), None),
    ((0,), (1, 1), None),
    ((0, 0), (1,), None),
    ((0, 0, 0), (1, 1), None),
    ((0, 0), (1, 1, 1), None),
    ((0, 0, 0, 0), (1, 1, 1, 1), None),
    ((0,) * 4, (1,) * 3, None),
    ((0,) * 1000, (0,) * 1000, None),
    ((-1,), (1,), None),
    ((0, -1), (1, 1), None),
    ((0, 0, -SIXTY), (1, 1, 1), None),
    ((2,), (1,), None),
    ((0, 2, 0), (1, 1, 1), None),
    ((SIXTY,), (7,), None),
    ((0,), (-1,), None),
    ((-2,), (-1,), None),
    ((0,), (8,), None),
    ((8,), (8,), None),
    ((0, 0, 0), (7, 7, 8), None),
    ((0, 0), (SIXTY, 1), None),
    ((SIXTY,), (SIXTY,), None),
]
