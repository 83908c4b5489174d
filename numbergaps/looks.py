"""Plans of looks that settle a box: () or (k, many, plan behind yes, plan behind no)."""

from numbergaps.boxes import parted, tight
from numbergaps.depths import Depths


def least(box):
    """The least depth that a plan for the box has, and such a plan: (depth, plan)."""
    whole = tight(box)
    depths = Depths()
    return (depths.depth_of(whole), _plan(whole, depths))


def walked(plan, world):
    """The looks that the plan asks of the world, and the answers: tuples (k, many, answer)."""
    asked = []
    while plan != ():
        k, many, yes, no = plan
        answer = world[k] >= many
        asked.append((k, many, answer))
        plan = yes if answer else no
    return asked


def _plan(box, depths):
    """A plan of the least depth for a tight box."""
    if depths.depth_of(box) == 0:
        return ()
    look = depths.best_look(box)
    k, many = look
    yes, no = parted(box, look)
    return (k, many, _plan(yes, depths), _plan(no, depths))
