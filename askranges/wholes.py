"""Integers: which objects are integers, and which words write one."""

MOST_DIGITS = 12


def is_whole(thing):
    """Return True if any object is an integer."""
    return isinstance(thing, int) and not isinstance(thing, bool)


def whole_of(word):
    """Return the integer that a string writes, or None if it writes none."""
    digits = word.removeprefix("-")
    if not 1 <= len(digits) <= MOST_DIGITS:
        return None
    # isdigit would also let digits of other scripts pass.
    if not all(["0" <= sign <= "9" for sign in digits]):
        return None
    if digits.startswith("0") and word != "0":
        return None
    return int(word)
