"""Tables and programs that several tests use, and slow plain ways to work out what is told of them."""

from collections import Counter

from instances.trees import tree_for
from samples import (
    INT, NO, SIG, X, Y, YES, ZERO, plain_choice, plain_fit, plain_named, plain_put, plain_tree, plain_variables, put_apart,
    unified,
)

S, PTR = ("s", X), ("ptr", X)
ONE, TWO = ("s", ZERO), ("s", ("s", ZERO))
PLUS = ("plus", ("count", "count"), "count", (((ZERO, Y), Y), ((S, Y), ("s", ("!", "plus", X, Y)))))
TIMES = ("times", ("count", "count"), "count", (((ZERO, Y), ZERO), ((S, Y), ("!", "plus", Y, ("!", "times", X, Y)))))
SAME = ("same", ("type", "type"), "truth", (((X, Y), NO), ((X, X), YES)))
BOTH = ("both", ("type", "type"), "truth", (((X, Y), NO), ((PTR, Y), YES), ((X, ("ptr", Y)), YES)))
EVEN = ("even", ("count",), "truth", (((ZERO,), YES), ((S,), ("!", "odd", X))))
ODD = ("odd", ("count",), "truth", (((ZERO,), NO), ((S,), ("!", "even", X))))
EVER = ("ever", ("count",), "count", (((X,), ("!", "ever", X)),))
SWAP = ("swap", ("count", "count"), "count", (((ZERO, Y), ZERO), ((S, Y), ("!", "swap", Y, S)), ((ZERO, ZERO), ZERO)))
GROW = ("grow", ("count",), "count", (((ZERO,), ZERO), ((S,), ("!", "grow", ("s", S)))))

TABLE = (SIG, (PLUS, SAME, BOTH))
FULL = (SIG, (PLUS, TIMES, EVEN, ODD))
LAST = ("a", ((0, 1), (0, 1), (0, 1, 2)), (("same", (INT, INT)),))
LESS = ("b", ((0, 1), (0,), (0, 1)), (("same", (INT, INT)), ("plus", (ZERO, TWO))))
PROGRAM = (TABLE, (LAST, LESS))


def table_of(*definitions, signature=SIG):
    return (signature, definitions)


def inner_uses(body):
    """The inner uses of a body in the order of their places."""
    if body[0] == "?":
        return []
    if body[0] == "!":
        return [body] + [use for part in body[2:] for use in inner_uses(part)]
    return [use for part in body[1:] for use in inner_uses(part)]


def parts_of(term):
    """All parts of a term, pattern or body."""
    below = () if term[0] == "?" else term[2:] if term[0] == "!" else term[1:]
    return [term] + [part for other in below for part in parts_of(other)]


def plain_groups(table):
    """The groups of the table, worked out step by step as [22] tells them."""
    used = {name: {use[1] for row, body in cases for use in inner_uses(body)} for name, params, result, cases in table[1]}
    reached = {name: set(used[name]) for name in used}
    for _ in used:
        for name in used:
            for other in list(reached[name]):
                reached[name] |= used[other]
    found = []
    for name in used:
        mates = tuple(other for other in used if other == name or other in reached[name] and name in reached[other])
        if mates not in found:
            found.append(mates)
    return tuple(found)


def plain_looked_at(table):
    """For each definition the indexes of its looked-at parameters."""
    found = {}
    for name, params, result, cases in table[1]:
        found[name] = []
        for at in range(len(params)):
            for row, body in cases:
                stands = [part for term in row for part in parts_of(term)].count(row[at])
                if (row[at][0] != "?" or stands != 1) and at not in found[name]:
                    found[name].append(at)
    return found


class Hands:
    """What a table's uses hand on, as [22] to [24] tell it."""

    def __init__(self, table):
        self.looked = plain_looked_at(table)
        self.groups = plain_groups(table)
        self.cases = {
            name: [(tuple(row[at] for at in self.looked[name]), body) for row, body in cases]
            for name, params, result, cases in table[1]
        }

    def staying(self, name, body):
        """Triples of the place, the name and the looked-at arguments of each inner use that stays."""
        [group] = [group for group in self.groups if name in group]
        return [
            (place, use[1], tuple(use[2 + at] for at in self.looked[use[1]]))
            for place, use in enumerate(inner_uses(body)) if use[1] in group
        ]

    def levels(self, name, case):
        """Those that are level."""
        row, body = self.cases[name][case]
        return [told for told in self.staying(name, body) if Counter(told[2]) == Counter(row)]

    def is_formed(self):
        """Whether each hands on parts, each of a parameter of its own."""
        def can(args, rows):
            return not args or any(
                args[0] in parts_of(row) and can(args[1:], rows[:at] + rows[at + 1:]) for at, row in enumerate(rows)
            )
        return all(
            can(args, row) for name in self.cases for row, body in self.cases[name]
            for place, other, args in self.staying(name, body)
        )


def plain_is_round(table, use, steps):
    """Whether the steps lead from the use to one that comes round, as [25] tells it."""
    hands = Hands(table)
    start = (use[0], tuple(use[1][at] for at in hands.looked[use[0]]))
    name, args = start
    for case, place in steps:
        if plain_choice(hands.cases[name], args) != ("chosen", case):
            return False
        found = [told for told in hands.levels(name, case) if told[0] == place]
        if not found:
            return False
        put = put_apart(hands.cases[name][case][0], args)
        name, args = found[0][1], tuple(plain_put(arg, put) for arg in found[0][2])
    return len(steps) > 0 and (name, args) == start


def some_round(table, terms):
    """A round of a use whose arguments are of these terms, for each kind some; None if there is none."""
    hands = Hands(table)
    for name, params, result, cases in table[1]:
        starts = [()]
        for at in hands.looked[name]:
            starts = [(*row, term) for row in starts for term in terms[params[at]]]
        for start in starts:
            waiting = [(name, start)]
            seen = []
            while waiting:
                now, args = waiting.pop()
                seen.append((now, args))
                told = plain_choice(hands.cases[now], args)
                if told[0] != "chosen":
                    continue
                put = put_apart(hands.cases[now][told[1]][0], args)
                for place, other, parts in hands.levels(now, told[1]):
                    then = (other, tuple(plain_put(part, put) for part in parts))
                    if then == (name, start):
                        return then
                    if then not in seen:
                        waiting.append(then)
    return None


class PlainRoads:
    """The roads of a table, worked out by plain calls as [26] tells them.

    Of a road that is closed the goal and the rows are told in the place of the tree."""

    def __init__(self, table, covers):
        self.hands = Hands(table)
        self.covers = covers
        self.many = 0
        self.trees = []
        for name, params, result, cases in table[1]:
            kinds = tuple(params[at] for at in self.hands.looked[name])
            start = tuple(("?", f"g{at}") for at in range(len(kinds)))
            self.trees.append(self.tree(kinds, name, start, start, ()))

    def new(self, terms):
        """The terms with new variables."""
        self.many += 1
        put = {name: ("?", f"{name}.{self.many}") for name in plain_variables(terms)}
        return tuple(plain_put(term, put) for term in terms)

    def tree(self, kinds, name, goal, standing, rows):
        return tuple(self.fork(kinds, name, case, goal, standing, rows) for case in range(len(self.hands.cases[name])))

    def fork(self, kinds, name, case, goal, standing, rows):
        cases = self.hands.cases[name]
        row = self.new(cases[case][0])
        told = unified(zip(standing, row), (*goal, *row))
        if told is None:
            return ("no",)
        goal, row = tuple(told[:len(goal)]), told[len(goal):]
        for other, body in cases:
            if not plain_fit(other, cases[case][0]):
                avoided = unified(zip(row, self.new(other)), goal)
                if avoided is not None:
                    rows = (*rows, tuple(avoided))
        if kinds:
            told = plain_named(goal), tuple(plain_named(avoided) for avoided in rows)
            if self.covers(kinds, *told):
                return ("closed", kinds, *told)
        parts = []
        for place, other, args in self.hands.levels(name, case):
            then = tuple(row[cases[case][0].index(arg)] for arg in args)
            parts.append((place, self.tree(kinds, other, goal, then, rows)))
        return ("open", tuple(parts))


def are_plain_roads(table, value):
    """Whether the value is the roads of the table, with any trees of cases, as they are worked out plainly."""
    def is_told(told, plain):
        if not isinstance(told, tuple) or len(told) != len(plain):
            return False
        return all(isinstance(part, tuple) and part != () and is_fork(part, other) for part, other in zip(told, plain))

    def is_fork(told, plain):
        if told[0] != plain[0]:
            return False
        if told[0] == "no":
            return told == ("no",)
        if len(told) != 2:
            return False
        if told[0] == "closed":
            return looks_like_a_tree(told[1], len(plain[3])) and plain_tree(table[0], *plain[1:], told[1])
        places = [part[0] for part in told[1]]
        if places != [place for place, below in plain[1]] or any(place is True or place is False for place in places):
            return False
        return all(is_told(part[1], below) for part, (place, below) in zip(told[1], plain[1]))

    plain = PlainRoads(table, lambda kinds, goal, rows: tree_for(table[0], kinds, goal, rows) is not None)
    return len(value) == len(plain.trees) and all(is_told(tree, other) for tree, other in zip(value, plain.trees))


def looks_like_a_tree(value, many):
    """Whether it has the form of a tree of cases for so many rows."""
    if not isinstance(value, tuple) or len(value) < 2:
        return False
    if value[0] == "leaf":
        return len(value) == 2 and type(value[1]) is int and 0 <= value[1] < many
    if value[0] != "split" or len(value) != 3 or not isinstance(value[2], tuple):
        return False
    return all(looks_like_a_tree(part, many) for part in value[2])
