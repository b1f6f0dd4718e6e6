"""Traps: values with which it was wrong to ask the one item first, and what a session spends on given values."""

from askranges.errors import InvalidLimit
from askranges.settling import truth_of
from askranges.wholes import is_whole


def trap(first, second):
    """Return the smallest pair of values for two open items such that only asking the second one settles them."""
    # The first value must be possible for the second item, the second value must not be possible for the first one.
    shared = max(first.least, second.least)
    if shared > min(first.greatest, second.greatest):
        return None
    if second.least < first.least:
        return (shared, second.least)
    if second.greatest > first.greatest:
        return (shared, first.greatest + 1)
    return None


def price_of(values, session, limit=1000):
    """Return what a session has spent when it is done, or behind so many more answers from a dict of values."""
    # Only the check matters here: what is not values for the pool raises InvalidValues.
    truth_of(session.pool, values)
    if not is_whole(limit) or limit < 0:
        raise InvalidLimit("a limit is an integer from 0 on")
    played = session.copy()
    given = 0
    while given < limit and not played.is_done:
        played.answer(values[played.next_ask])
        given += 1
    return played.spent
