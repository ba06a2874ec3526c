"""Whole numbers and marks."""


def is_whole(thing):
    """Tell whether a thing is a whole number: an int that is no truth."""
    return isinstance(thing, int) and not isinstance(thing, bool)


def is_number_to(thing, most):
    """Tell whether a thing is a whole number from 0 to most."""
    return is_whole(thing) and 0 <= thing <= most


def is_mark(thing):
    """Tell whether a thing is a mark: a whole number from 0 on."""
    return is_whole(thing) and thing >= 0
