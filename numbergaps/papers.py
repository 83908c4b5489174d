"""Papers: lists of tuples (lows, highs, depth) that show that a box has no plan of less depth."""

from numbergaps.boxes import looks_in, parted, tight
from numbergaps.depths import Depths
from numbergaps.errors import NoBox, NoWorld


def paper(box):
    """A paper that shows the least depth of a plan for the box."""
    whole = tight(box)
    depths = Depths()
    depth = depths.depth_of(whole)
    if depth == 0:
        return []
    claims = {whole: depth}
    level = [whole]
    # The deepest claims go first: what is claimed already is then deep enough for all that follows.
    for left in range(depth - 1, 0, -1):
        level = _claimed_behind(level, left, claims, depths)
    return [(lows, highs, claim) for (lows, highs, _), claim in claims.items()]


def shows(box, depth, rows):
    """Whether the paper of these rows shows that no plan for the box has less depth."""
    lows, highs, total = tight(box)
    if not all([_has_worlds(row, total) for row in rows]):
        return False
    claims = _greatest_claims(rows)
    if not _is_claimed(lows, highs, depth, claims):
        return False
    return all([_is_shown(row, total, claims) for row in rows])


def _claimed_behind(boxes, depth, claims, depths):
    """Claims this depth for a box behind each look at these boxes, and tells which boxes are new."""
    new = []
    for box in boxes:
        for look in looks_in(box):
            deep = [side for side in parted(box, look) if depths.depth_of(side) >= depth]
            if not any([side in claims for side in deep]):
                claims[deep[0]] = depth
                new.append(deep[0])
    return new


def _has_worlds(row, total):
    """Whether the row is a box with the total, and one that has worlds."""
    lows, highs, _ = row
    try:
        tight((lows, highs, total))
    except (NoBox, NoWorld):
        return False
    return True


def _greatest_claims(rows):
    """The greatest depth with which each pair of lows and highs stands in the rows."""
    claims = {}
    for lows, highs, depth in rows:
        claims[(lows, highs)] = max(depth, claims.get((lows, highs), depth))
    return claims


def _is_claimed(lows, highs, depth, claims):
    """Whether these lows and highs are claimed to have that depth; 0 needn't stand in a paper."""
    return depth <= 0 or claims.get((lows, highs), 0) >= depth


def _is_shown(row, total, claims):
    """Whether the row follows from the other claims: each look leaves a box of one depth less."""
    lows, highs, depth = row
    if depth <= 0:
        return True
    box = (lows, highs, total)
    if tight(box) != box or lows == highs:
        return False
    return all([_leaves(box, look, depth - 1, claims) for look in looks_in(box)])


def _leaves(box, look, depth, claims):
    """Whether yes or no leads to a box that is claimed to have this depth."""
    for lows, highs, _ in parted(box, look):
        if _is_claimed(lows, highs, depth, claims):
            return True
    return False
