"""Boxes (lows, highs, total): their worlds are tuples of numbers between the lows and the highs.

The numbers of a world are together as many as the total; any, if that is None.
"""

from numbergaps.errors import NoBox, NotThere
from numbergaps.sums import narrowed

MOST_PLACES = 3
GREATEST_HIGH = 7


def tight(box):
    """The box whose lows and highs are the least and the greatest that the box's worlds have."""
    _check_box(box)
    lows, highs, total = box
    return _tightened(lows, highs, total)


def is_settled(box):
    """Whether the box has one world alone."""
    lows, highs, _ = tight(box)
    return lows == highs


def behind(box, look):
    """The box behind yes and the one behind no of a look (k, many)."""
    whole = tight(box)
    if look not in looks_in(whole):
        raise NotThere("the look may not be asked in this box")
    return parted(whole, look)


def looks_in(box):
    """All looks that may be asked in a tight box; none if it is settled."""
    lows, highs, _ = box
    return [
        (k, many)
        for k in range(len(lows))
        for many in range(lows[k] + 1, highs[k] + 1)
    ]


def parted(box, look):
    """As behind, of a tight box and a look that may be asked in it, which are not checked again."""
    lows, highs, total = box
    k, many = look
    yes = _tightened(lows[:k] + (many,) + lows[k + 1:], highs, total)
    no = _tightened(lows, highs[:k] + (many - 1,) + highs[k + 1:], total)
    return (yes, no)


def _tightened(lows, highs, total):
    """The tight box of lows and highs that are not crossed; refused if it has no worlds."""
    spans = narrowed(lows, highs, total)
    return (tuple([low for low, high in spans]), tuple([high for low, high in spans]), total)


def _check_box(box):
    """Refuses what is no box; it may be one without worlds."""
    lows, highs, _ = box
    if len(lows) != len(highs):
        raise NoBox("there are not as many lows as highs")
    if len(lows) < 1 or len(lows) > MOST_PLACES:
        raise NoBox("a box has one to three places")
    for low, high in zip(lows, highs):
        if low < 0 or low > high or high > GREATEST_HIGH:
            raise NoBox(f"no place of a box goes from {low} to {high}")
