"""What several tests use: signatures, odd values, and slow plain ways to work out the same things."""

import itertools

KINDS = (("count", "closed"), ("truth", "closed"), ("type", "open"), ("row", "closed"))
MAKERS = (
    ("z", (), "count"),
    ("s", ("count",), "count"),
    ("yes", (), "truth"),
    ("no", (), "truth"),
    ("int", (), "type"),
    ("ptr", ("type",), "type"),
    ("nil", (), "row"),
    ("cons", ("type", "row"), "row"),
)
SIG = (KINDS, MAKERS)

# Trees over an open kind, with makers of up to three arguments, and a kind without makers.
TREES = (
    (("tree", "closed"), ("leaf", "open"), ("bare", "open")),
    (
        ("at", ("leaf",), "tree"),
        ("two", ("tree", "tree"), "tree"),
        ("three", ("tree", "leaf", "tree"), "tree"),
        ("a", (), "leaf"),
        ("b", (), "leaf"),
        ("wrap", ("tree",), "leaf"),
        ("box", ("bare",), "leaf"),
    ),
)

X, Y, Z = ("?", "x"), ("?", "y"), ("?", "z")
INT, NIL, ZERO, YES, NO = ("int",), ("nil",), ("z",), ("yes",), ("no",)


class Hostile:
    """A value that says that it is equal to anything, and has no hash and no truth."""

    __hash__ = None

    def __eq__(self, other):
        return True

    def __ne__(self, other):
        return False

    def __bool__(self):
        raise AssertionError("asked for its truth")

    def __len__(self):
        raise AssertionError("asked for its length")

    def __getitem__(self, at):
        raise AssertionError("asked for an item")

    def __iter__(self):
        raise AssertionError("iterated over")


def nested(depth, inner=()):
    """A value nested so deep."""
    for _ in range(depth):
        inner = (inner,)
    return inner


def odd_values():
    """Values of all sorts, none of which is right where anything is asked for."""
    return [
        None, True, False, 0, 1, -1, 10 ** 30, "", "x", "count", "#", "?", b"count", b"", (), [], {}, set(),
        (None,), (True, False), [1, 2], {"count": "closed"}, ((), ()), ([], []), ("", ""), ("count",) * 5,
        frozenset(), object(), Hostile(), (Hostile(),), (Hostile(), Hostile()), (Hostile(),) * 3,
        len, int, nested(59), nested(59, "count"), ("a" * 500,), "\ud800", ("\u00e9",),
        (b"count",), (0,), ("".join,), range(2), ("#",), ("?",), ("#", "type"), ("?", "x", "y"),
    ]


def makers_of(signature, kind):
    return [(name, needs) for name, needs, made in signature[1] if made == kind]


def terms_up_to(signature, kind, depth, variables=(), numbers=()):
    """All terms of the kind up to this depth, with these variables, pairs of a name and a kind, and strangers."""
    found = [("?", name) for name, of_kind in variables if of_kind == kind]
    if (kind, "open") in signature[0]:
        found += [("#", kind, number) for number in numbers]
    if depth > 0:
        for name, needs in makers_of(signature, kind):
            parts = [terms_up_to(signature, need, depth - 1, variables, numbers) for need in needs]
            found += [(name, *row) for row in itertools.product(*parts)]
    return found


def rows_up_to(signature, kinds, depth, variables=(), numbers=()):
    """All tuples of such terms for the kinds."""
    return list(itertools.product(*[terms_up_to(signature, kind, depth, variables, numbers) for kind in kinds]))


def size_of(term):
    """The size of a closed term."""
    return 1 if term[0] == "#" else 1 + sum(size_of(part) for part in term[1:])


def plain_put(term, found):
    """The term with what is found put for its variables."""
    if term[0] == "?":
        return found.get(term[1], term)
    if term[0] == "#":
        return term
    return (term[0], *(plain_put(part, found) for part in term[1:]))


def plain_fit(patterns, terms):
    """Whether the terms fit the patterns, worked out part by part."""
    found = {}

    def fit(pattern, term):
        if pattern[0] == "?":
            return found.setdefault(pattern[1], term) == term
        if pattern[0] != term[0] or len(pattern) != len(term):
            return False
        return all(fit(part, other) for part, other in zip(pattern[1:], term[1:]))

    return all(fit(pattern, term) for pattern, term in zip(patterns, terms))


def plain_variables(patterns):
    """The names of variables as they stand, from the left."""
    names = []
    for term in patterns:
        names += [term[1]] if term[0] == "?" else plain_variables(term[1:]) if term[0] != "#" else []
    return list(dict.fromkeys(names))


def plain_named(patterns):
    found = {name: ("?", f"v{at + 1}") for at, name in enumerate(plain_variables(patterns))}
    return tuple(plain_put(term, found) for term in patterns)


def plain_meet(one, other):
    """The meet by Robinson's way."""
    apart = {name: ("?", "other " + name) for name in plain_variables(other)}
    told = unified(zip(one, [plain_put(term, apart) for term in other]), one)
    return None if told is None else plain_named(told)


def unified(pairs, told):
    """What is told, with the most general things put for its variables that make each pair alike; None if none do.

    One variable after the other is put away."""
    waiting, told = list(pairs), list(told)
    while waiting:
        left, right = waiting.pop()
        if left == right:
            continue
        if right[0] == "?":
            left, right = right, left
        if left[0] == "?":
            if left[1] in plain_variables([right]):
                return None
            put = {left[1]: right}
            waiting = [(plain_put(a, put), plain_put(b, put)) for a, b in waiting]
            told = [plain_put(term, put) for term in told]
        elif left[0] != right[0]:
            return None
        else:
            waiting += zip(left[1:], right[1:])
    return told


def chain(depth, inner):
    """s(s(..(inner)))."""
    for _ in range(depth):
        inner = ("s", inner)
    return inner


def plain_kinds(signature, kinds, patterns):
    """For each variable's name its kind."""
    needs = {name: needs for name, needs, made in signature[1]}
    found = {}
    for kind, term in zip(kinds, patterns):
        if term[0] == "?":
            found.setdefault(term[1], kind)
        else:
            found.update(plain_kinds(signature, needs[term[0]], term[1:]))
    return found


def plain_tree(signature, kinds, goal, rows, tree):
    """Whether what looks like a tree of cases is one, worked out as [12] tells it."""
    goal = plain_named(goal)
    if tree[0] == "leaf":
        return plain_fit(rows[tree[1]], goal)
    _, name, parts = tree
    kind = plain_kinds(signature, kinds, goal).get(name)
    if (kind, "closed") not in signature[0]:
        return False
    makers = makers_of(signature, kind)
    if len(makers) != len(parts):
        return False
    for (maker, needs), part in zip(makers, parts):
        made = (maker, *[("?", f"new{at}") for at in range(len(needs))])
        if not plain_tree(signature, kinds, [plain_put(term, {name: made}) for term in goal], rows, part):
            return False
    return True


def tree_size(tree):
    """How many leaves and splits the tree has."""
    return 1 if tree[0] == "leaf" else 1 + sum(tree_size(part) for part in tree[2])


def plain_choice(cases, args):
    """What [16] tells of these arguments and cases, pairs of patterns and a body."""
    fitting = [index for index, (patterns, body) in enumerate(cases) if plain_fit(patterns, args)]
    for index in fitting:
        if all(plain_fit(cases[other][0], cases[index][0]) for other in fitting):
            return ("chosen", index)
    least = [
        index for index in fitting
        if not any(other != index and plain_fit(cases[index][0], cases[other][0]) for other in fitting)
    ]
    return ("two", least[0], least[1]) if least else ("none",)


def depth_of(term):
    """How deep terms stand in one another in the closed term."""
    return 1 if term[0] == "#" else 1 + max([depth_of(part) for part in term[1:]], default=0)


class Told(Exception):
    """The run comes to an end without a value."""


def plain_run(table, use):
    """What the run of the use tells, and its instances, worked out by plain calls as [20] tells it."""
    cases = {name: of_name for name, params, result, of_name in table[1]}
    values, running, found = {}, [], []

    def is_too_great(term):
        return size_of(term) > 400 or depth_of(term) > 40

    def work_out(body, put):
        if body[0] == "?":
            return put[body[1]]
        if body[0] != "!":
            return (body[0], *[work_out(part, put) for part in body[1:]])
        args = tuple(work_out(part, put) for part in body[2:])
        if any(is_too_great(term) for term in args):
            raise Told(("great",))
        return come_to((body[1], args))

    def come_to(now):
        if now in values:
            return values[now]
        if now in running:
            raise Told(("round", now))
        if len(values) + len(running) == 150:
            raise Told(("great",))
        told = plain_choice(cases[now[0]], now[1])
        if told[0] != "chosen":
            raise Told((told[0], now))
        running.append(now)
        patterns, body = cases[now[0]][told[1]]
        value = work_out(body, put_apart(patterns, now[1]))
        if is_too_great(value):
            raise Told(("great",))
        running.remove(now)
        values[now] = value
        found.append((now, told[1], value))
        return value

    try:
        return ("value", come_to(use)), tuple(found)
    except Told as told:
        return told.args[0], None


def put_apart(patterns, terms):
    """What is put for the variables of patterns that the terms fit."""
    found = {}
    for pattern, term in zip(patterns, terms):
        found.update({pattern[1]: term} if pattern[0] == "?" else put_apart(pattern[1:], term[1:]))
    return found
