"""What the whole package takes for numbers, names and rows of things."""

LETTERS = "abcdefghijklmnopqrstuvwxyz"
NAME_SIGNS = "abcdefghijklmnopqrstuvwxyz0123456789_"
LONGEST_NAME = 12


def is_whole(value):
    """Whether it is a whole number; True and False are none."""
    return isinstance(value, int) and not isinstance(value, bool)


def is_name(value):
    """Whether it is a name: 1 to 12 small letters, figures and _, a letter first."""
    if not isinstance(value, str) or not 1 <= len(value) <= LONGEST_NAME:
        return False
    return value[0] in LETTERS and all([sign in NAME_SIGNS for sign in value])


def is_tuple(value, least, most):
    """Whether it is a tuple of so many elements."""
    return isinstance(value, tuple) and least <= len(value) <= most


def is_among(value, texts):
    """Whether it is one of these texts, or of a dict's keys."""
    # What is no text might be taken for one by its own way of comparing.
    return isinstance(value, str) and value in texts


def are_unlike(texts):
    """Whether no text stands twice."""
    return len(set(texts)) == len(texts)
