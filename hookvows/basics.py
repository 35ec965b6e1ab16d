"""What tells integers, counts and names from all other values."""

from hookvows.errors import InvalidName

LETTERS = "abcdefghijklmnopqrstuvwxyz"
LETTERS_AND_DIGITS = "abcdefghijklmnopqrstuvwxyz0123456789"
LONGEST_NAME = 8


def is_integer(value):
    """Whether any value is an INTEGER: an int that is neither True nor False."""
    return isinstance(value, int) and not isinstance(value, bool)


def is_count(value):
    """Whether any value is a COUNT: an INTEGER that is at least 0."""
    return is_integer(value) and value >= 0


def is_name(value):
    """Whether any value is a NAME: a letter, then at most seven letters and digits."""
    if not isinstance(value, str) or not 1 <= len(value) <= LONGEST_NAME:
        return False
    # isalpha and isdigit would also take letters and digits beyond ASCII.
    return value[0] in LETTERS and all([sign in LETTERS_AND_DIGITS for sign in value])


def is_below(value, limit):
    """Whether any value is a COUNT that is less than the limit."""
    return is_count(value) and value < limit


def is_list(value):
    """Whether any value is a list, or a tuple, which is accepted as well."""
    return isinstance(value, (list, tuple))


def checked_name(value):
    """The value itself, if it is a NAME."""
    if not is_name(value):
        raise InvalidName(value)
    return value
