"""What an integer is, and the checks of numbers that are passed in."""

from accordions.errors import InvalidNumberError


def is_whole_number(value):
    """Tell whether any value is an integer; True and False are none."""
    return isinstance(value, int) and not isinstance(value, bool)


def check_index(index, many):
    """Raise an error if this is not the index of one of so many things."""
    if not is_whole_number(index) or not 0 <= index < many:
        raise InvalidNumberError("the index is not an integer from 0 to less than the count")


def check_count(count):
    """Raise an error if this is not an integer from 0 on."""
    if not is_whole_number(count) or count < 0:
        raise InvalidNumberError("the count is not an integer from 0 on")
