"""Tuples of numbers, each from its low to its high, together as many as a total (None: any)."""

from numbergaps.errors import NoWorld


def narrowed(lows, highs, total):
    """The list of (low, high): the least and the greatest number at each place in any tuple."""
    _check_total(lows, highs, total)
    if total is None:
        return list(zip(lows, highs))
    above = total - sum(lows)
    below = sum(highs) - total
    return [(max(low, high - below), min(high, low + above)) for low, high in zip(lows, highs)]


def tuples_between(lows, highs, total):
    """The list of all such tuples, rising."""
    _check_total(lows, highs, total)
    starts = [()]
    for _ in range(len(lows)):
        starts = [
            (*start, number)
            for start in starts
            for number in _next_numbers(start, lows, highs, total)
        ]
    return starts


def _next_numbers(start, lows, highs, total):
    """The numbers behind this start from which a whole tuple can still be made."""
    place = len(start)
    low = lows[place]
    high = highs[place]
    if total is not None:
        left = total - sum(start)
        low = max(low, left - sum(highs[place + 1:]))
        high = min(high, left - sum(lows[place + 1:]))
    return list(range(low, high + 1))


def _check_total(lows, highs, total):
    """Refuses lows and highs, none of them crossed, between which no tuple has the total."""
    if total is not None and (total < sum(lows) or total > sum(highs)):
        raise NoWorld(f"nothing between the lows and the highs makes {total}")
