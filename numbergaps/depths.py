"""The least depths of plans for boxes. All boxes here are tight."""

from numbergaps.boxes import looks_in, parted


class Depths:
    """Tells the least depths, and works each of them out once."""

    def __init__(self):
        self._known = {}

    def depth_of(self, box):
        """The least depth of a plan for the box."""
        shape = _shape(box)
        if shape not in self._known:
            self._known[shape] = self._worked_out(box)
        return self._known[shape]

    def best_look(self, box):
        """A look with which a plan of the least depth begins, for a box that is not settled."""
        _, look = min(self._rated_looks(box))
        return look

    def _worked_out(self, box):
        rated = self._rated_looks(box)
        if len(rated) == 0:
            return 0
        left, _ = min(rated)
        return 1 + left

    def _rated_looks(self, box):
        """The looks of the box, each as (the depth that is left behind the worse answer, the look)."""
        return [(self._left_behind(box, look), look) for look in looks_in(box)]

    def _left_behind(self, box, look):
        yes, no = parted(box, look)
        return max(self.depth_of(yes), self.depth_of(no))


def _shape(box):
    """What boxes of the same least depth have in common, so that few need to be worked out.

    A plan for one of them is one for the others too, but for the order of the
    places and for where the counting of each begins.
    """
    lows, highs, total = box
    widths = tuple(sorted([high - low for low, high in zip(lows, highs)]))
    if total is None:
        return (widths, None)
    return (widths, total - sum(lows))
