"""Covering: whether each instance of a goal fits some row, told by a tree of cases or by an instance."""

from instances.conventions import is_tuple
from instances.errors import InvalidRows
from instances.patterns import are_right_patterns, check_patterns
from instances.signatures import check_kinds, check_signature
from instances.trees import instance_beside, is_tree, tree_for

MOST_ROWS = 40


def check_covering(signature, kinds, goal, rows):
    """Checks the arguments of what is asked of a goal and rows, in their order."""
    check_signature(signature)
    check_kinds(signature, kinds)
    check_patterns(signature, kinds, goal)
    if not is_tuple(rows, 0, MOST_ROWS):
        raise InvalidRows(None)
    for index, row in enumerate(rows):
        if not are_right_patterns(signature, kinds, row):
            raise InvalidRows(index)


def cover(signature, kinds, goal, rows):
    """A tree of cases for the goal; None if the rows do not cover it."""
    check_covering(signature, kinds, goal, rows)
    return tree_for(signature, kinds, goal, rows)


def witness(signature, kinds, goal, rows):
    """An instance of the goal that fits no row; None if the rows cover it."""
    check_covering(signature, kinds, goal, rows)
    return instance_beside(signature, kinds, goal, rows)


def is_cover(signature, kinds, goal, rows, value):
    """Whether the value, whatever it is, is a tree of cases for the goal and the rows."""
    check_covering(signature, kinds, goal, rows)
    return is_tree(signature, kinds, goal, rows, value)
