"""Numbers, words and names: whether any value is one of them."""

SMALL_LETTERS = "abcdefghijklmnopqrstuvwxyz"
LONGEST_WORD = 8


def is_number(value):
    """Whether any value is a number."""
    # True and False are ints to Python, but nowhere numbers here.
    return isinstance(value, int) and not isinstance(value, bool)


def is_number_in(value, low, high):
    """Whether any value is a number from low to high."""
    return is_number(value) and low <= value <= high


def is_word(value):
    """Whether any value is a text of one to eight small letters."""
    if not isinstance(value, str) or not 1 <= len(value) <= LONGEST_WORD:
        return False
    return all([sign in SMALL_LETTERS for sign in value])


def is_one_of(names, value):
    """Whether any value is one of some names."""
    # Only texts are compared: another value may say that it is equal to anything.
    return isinstance(value, str) and value in names


def is_ordered(names, value):
    """Whether any value is a tuple of some of the names, unlike and in their order."""
    if not isinstance(value, tuple) or not are_unlike(names, value):
        return False
    return value == tuple([name for name in names if name in value])


def are_unlike(names, values):
    """Whether all items of a list or tuple are names, and none stands there twice."""
    if len(values) > len(names) or not all([is_one_of(names, value) for value in values]):
        return False
    return len(set(values)) == len(values)
