"""Checks of plain values that several modules need."""


def is_whole(value):
    """Return whether a value is an integer; True and False are none."""
    return isinstance(value, int) and not isinstance(value, bool)


def is_whole_within(value, least, most):
    """Return whether a value is an integer from least to most."""
    return is_whole(value) and least <= value and value <= most


def is_list_within(value, least, most):
    """Return whether a value is a list of least to most items."""
    return type(value) is list and least <= len(value) and len(value) <= most
