"""Numbers among the values of all kinds that a caller may pass."""


def is_number(value):
    """Whether a value is an integer; True and False are none."""
    return isinstance(value, int) and not isinstance(value, bool)
