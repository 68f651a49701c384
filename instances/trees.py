"""Trees of cases, and instances beside the rows: looked for, and looked at."""

from instances.columns import Grounds, first_page
from instances.conventions import is_among, is_tuple, is_whole
from instances.fitting import named_anew, put_for, put_in, variable_kinds
from instances.signatures import makers_by_kind, makers_by_name, open_kinds


def tree_for(signature, kinds, goal, rows):
    """A tree of cases for the goal and the rows; None if they do not cover it."""
    grounds = Grounds(signature)
    page = first_page(grounds, kinds, goal, rows)
    return page.tree if bare_page(grounds, page) is None else None


def bare_page(grounds, start):
    """A page below this one, or itself, that no row helps to cover; None if there is none and the page has its tree."""
    waiting = [(start, [])]
    while waiting:
        page, below = waiting.pop()
        if below:
            # What is put in the column is named in its place; the variables are named by their columns.
            page.tree = ("split", f"v{below[0].column + 1}", tuple([part.tree for part in below]))
            continue
        leaf = page.leaf()
        column = page.asked_column()
        if leaf is not None:
            page.tree = ("leaf", leaf)
        elif column is None:
            return page
        else:
            below = [page.with_maker(grounds, column, maker) for maker in grounds.choices[page.kinds[column]]]
            waiting.append((page, below))
            # The pages with the fewest rows are the likeliest to be bare, so they are looked at first.
            waiting.extend([(part, []) for part in sorted(below, key=rows_left, reverse=True)])
    return None


def rows_left(page):
    """How many rows the page has."""
    return len(page.rows)


def instance_beside(signature, kinds, goal, rows):
    """An instance of the goal that fits no row; None if the rows cover it."""
    grounds = Grounds(signature)
    page = bare_page(grounds, first_page(grounds, kinds, goal, rows))
    if page is None:
        return None
    names = list(variable_kinds(grounds.makers, kinds, goal))
    found = dict(zip(names, terms_of_page(grounds, page_of_strangers(grounds, page))))
    return tuple([put_in(term, found) for term in goal])


def page_of_strangers(grounds, page):
    """A page below this one, which is not covered, that is not covered either and has columns of open kinds alone."""
    column = column_left(grounds, page)
    while column is not None:
        # One of them is not covered, as the page is not; small terms ahead, so that they come to an end.
        for maker in grounds.smallest[page.kinds[column]]:
            below = bare_page(grounds, page.with_maker(grounds, column, maker))
            if below is not None:
                page = below
                break
        column = column_left(grounds, page)
    return page


def column_left(grounds, page):
    """A column that a row asks for, best by a maker; without rows any of a closed kind; None if there is none."""
    if page.rows:
        row = page.rows[0]
        by_maker = [column for column in row.asked if row.entries[column][0] != "?"]
        return (by_maker + row.asked)[0]
    closed = [column for column, kind in enumerate(page.kinds) if kind not in grounds.strange]
    return closed[0] if closed else None


def terms_of_page(grounds, page):
    """The terms that the splits above the page make for the first columns, each column left a stranger of its own."""
    terms = [("#", kind, column + 1) for column, kind in enumerate(page.kinds)]
    while page.parent is not None:
        end = page.column + len(grounds.makers[page.maker][0])
        terms[page.column:end] = [(page.maker, *terms[page.column:end])]
        page = page.parent
    return terms


def is_tree(signature, kinds, goal, rows, value):
    """Whether the value, whatever it is, is a tree of cases for the goal and the rows."""
    makers = makers_by_name(signature)
    choices = makers_by_kind(signature)
    strange = open_kinds(signature)
    waiting = [(goal, value)]
    while waiting:
        patterns, tree = waiting.pop()
        patterns = named_anew(patterns)
        if is_leaf(patterns, rows, tree):
            continue
        names = variable_kinds(makers, kinds, patterns)
        if not is_split(names, strange, tree) or len(tree[2]) != len(choices[names[tree[1]]]):
            return False
        for (maker, needs), part in zip(choices[names[tree[1]]], tree[2]):
            # None of the patterns' own variables is named so.
            made = (maker, *[("?", f"new{at}") for at in range(len(needs))])
            waiting.append((tuple([put_in(term, {tree[1]: made}) for term in patterns]), part))
    return True


def is_leaf(patterns, rows, value):
    """Whether it is a leaf that tells a row which the patterns fit."""
    if not is_tuple(value, 2, 2) or not is_among(value[0], ("leaf",)):
        return False
    return is_whole(value[1]) and 0 <= value[1] < len(rows) and put_for(rows[value[1]], patterns) is not None


def is_split(names, strange, value):
    """Whether it tells to split one of these variables, of a closed kind, and has parts."""
    if not is_tuple(value, 3, 3) or not is_among(value[0], ("split",)) or not is_among(value[1], names):
        return False
    return names[value[1]] not in strange and isinstance(value[2], tuple)
