"""Questions that can be asked of any value."""

from rimsewn.grids import is_grid

SMALL = "abcdefghijklmnopqrstuvwxyz"
DIGITS = "0123456789"
LONGEST_NAME = 12


def is_integer(value):
    """Whether it is an integer; True and False are none."""
    return isinstance(value, int) and not isinstance(value, bool)


def is_within(value, least, most):
    """Whether it is an integer from least to most; None stands for no bound."""
    if not is_integer(value):
        return False
    return (least is None or value >= least) and (most is None or value <= most)


def is_kind(value):
    """Whether it is a kind of grid."""
    return is_grid(value)


def is_name(value):
    """Whether it is a name."""
    if not isinstance(value, str) or len(value) < 1 or len(value) > LONGEST_NAME:
        return False
    return value[0] in SMALL and all([sign in SMALL or sign in DIGITS for sign in value])


def is_listed(value):
    """Whether it is a list or a tuple."""
    return isinstance(value, (list, tuple))


def is_row(value):
    """Whether it is a list or tuple of integers."""
    return is_listed(value) and all([is_integer(item) for item in value])


def are_numbers(value, many):
    """Whether it is a list or tuple of ascending numbers below many, perhaps none."""
    if not is_row(value) or not all([is_within(number, 0, many - 1) for number in value]):
        return False
    return all([value[at - 1] < value[at] for at in range(1, len(value))])


def first_twice(values):
    """The first value that equals one ahead of it, None if there is none."""
    seen = set()
    for value in values:
        if value in seen:
            return value
        seen.add(value)
    return None
