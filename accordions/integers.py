"""What an integer is, and the check of an index."""

from accordions.errors import InvalidNumberError


def is_whole_number(value):
    """Tell whether any value is an integer; True and False are none."""
    return isinstance(value, int) and not isinstance(value, bool)


def check_index(index, many):
    """Raise an error if this is not the index of one of so many things."""
    if not is_whole_number(index) or not 0 <= index < many:
        raise InvalidNumberError("the index is not an integer from 0 to less than the count")
