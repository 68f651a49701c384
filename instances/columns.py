"""Covering told by columns: one for each variable of the goal, and what each row puts there.

The goal itself is not needed for it: its instances are what its variables may be, and a row that has
a meet with it becomes patterns for its variables' kinds."""

from instances.fitting import put_in, variable_kinds
from instances.meets import put_by_meet
from instances.signatures import makers_by_kind, makers_by_name, open_kinds, small_kinds

# Rows with this many makers or more count alike when a column is chosen.
MOST_WEIGHED = 40


class Grounds:
    """What a signature tells about splitting."""

    def __init__(self, signature):
        made = makers_by_kind(signature)
        least = least_sizes(signature)
        self.makers = makers_by_name(signature)
        self.small = small_kinds(signature)
        self.strange = {kind: True for kind in open_kinds(signature)}
        # Of each kind its makers in order, and those with the smallest terms ahead.
        self.choices = {kind: [maker for maker, needs in made[kind]] for kind in made}
        self.smallest = {kind: makers_by_size(made[kind], least) for kind in made}


def least_sizes(signature):
    """For each kind the size of its smallest closed terms."""
    least = {name: 1 for name in open_kinds(signature)}
    # Each round settles one more kind at least, the one whose smallest terms are the next smallest.
    for _ in signature[0]:
        for name, needs, kind in signature[1]:
            if all([need in least for need in needs]):
                size = 1 + sum([least[need] for need in needs])
                least[kind] = min(size, least.get(kind, size))
    return least


def makers_by_size(made, least):
    """The makers, by the size of their smallest terms."""
    sizes = [(sum([least[need] for need in needs]), at) for at, (maker, needs) in enumerate(made)]
    return [made[at][0] for size, at in sorted(sizes)]


class Row:
    """What a row puts for each column, and what it asks of them."""

    def __init__(self, index, entries, doubles, asked, helps, weight):
        self.index = index
        self.entries = entries
        # The variables that stand several times.
        self.doubles = doubles
        # The columns that must be split so that the row fits; none if it fits already.
        self.asked = asked
        self.helps = helps
        self.weight = weight


def row_told(grounds, kinds, index, entries):
    """The row with these entries; None if it fits nothing, however the columns are split.

    Columns of open kinds are strangers, all unlike, and so is all of open kinds that comes by splitting."""
    found = {}
    doubles = {}
    many = 0
    waiting = list(zip(kinds, entries))
    while waiting:
        kind, entry = waiting.pop()
        if entry[0] != "?":
            if kind in grounds.strange:
                return None
            many += 1
            waiting.extend(list(zip(grounds.makers[entry[0]][0], entry[1:])))
        elif entry[1] not in found:
            found[entry[1]] = True
        elif kind in grounds.strange:
            return None
        else:
            doubles[entry[1]] = kind
    asked = [column for column, entry in enumerate(entries) if entry[0] != "?" or entry[1] in doubles]
    helps = all([grounds.small[kind] for kind in list(doubles.values())])
    # A row that wants little decides much.
    weight = 1 << max(0, MOST_WEIGHED - many - len(doubles))
    return Row(index, entries, doubles, asked, helps, weight)


def entries_split(row, column, maker, many):
    """The row's entries with this maker, of so many arguments, in the column; None if it wants another one there."""
    entry = row.entries[column]
    entries = row.entries
    if entry[0] == "?":
        made = (maker, *[("?", f"{entry[1]}.{part}") for part in range(many)])
        if entry[1] in row.doubles:
            entries = [put_in(other, {entry[1]: made}) for other in entries]
        entry = made
    elif entry[0] != maker:
        return None
    return [*entries[:column], *entry[1:], *entries[column + 1:]]


class Page:
    """Columns of these kinds, and the rows that may still fit."""

    def __init__(self, kinds, rows, parent, column, maker):
        self.kinds = kinds
        self.rows = rows
        # The page that this one was split from, by putting the maker in the column.
        self.parent = parent
        self.column = column
        self.maker = maker
        self.tree = None

    def leaf(self):
        """The index of the first row that all fits; None if there is none."""
        for row in self.rows:
            if not row.asked:
                return row.index
        return None

    def asked_column(self):
        """The column that the rows that help ask for most; None if no row helps."""
        weights = {}
        for row in self.rows:
            if row.helps:
                for column in row.asked:
                    # A maker is wanted or not; two variables alike say nothing before one of them is split.
                    factor = 1 if row.entries[column][0] == "?" else 2
                    weights[column] = weights.get(column, 0) + factor * row.weight
        if not weights:
            return None
        return max(list(weights), key=lambda at: weights[at])

    def with_maker(self, grounds, column, maker):
        """The page with the maker in this column, and columns for its arguments in its place."""
        needs = grounds.makers[maker][0]
        kinds = [*self.kinds[:column], *needs, *self.kinds[column + 1:]]
        rows = []
        for row in self.rows:
            entries = entries_split(row, column, maker, len(needs))
            told = None if entries is None else row_told(grounds, kinds, row.index, entries)
            if told is not None:
                rows.append(told)
        return Page(kinds, rows, self, column, maker)


def first_page(grounds, kinds, goal, rows):
    """The page for the goal and the rows, with a column for each variable in the order in which they first stand."""
    names = variable_kinds(grounds.makers, kinds, goal)
    columns = list(names.values())
    told = []
    for index, patterns in enumerate(rows):
        entries = put_by_meet(names, goal, patterns)
        row = None if entries is None else row_told(grounds, columns, index, entries)
        if row is not None:
            told.append(row)
    return Page(columns, told, None, None, None)
