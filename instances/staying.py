"""What definitions use, what of it stays in a group, and what is handed on there at looked-at parameters."""

from instances.tables import bars


def inner_uses(body):
    """The inner uses of a body, in the order of their places."""
    found = []
    waiting = [body]
    while waiting:
        part = waiting.pop()
        if part[0] == "!":
            found.append(part)
            waiting.extend(list(reversed(part[2:])))
        elif part[0] != "?":
            waiting.extend(list(reversed(part[1:])))
    return found


def names_used(cases):
    """The names of the definitions that the bodies of these cases use."""
    return [part[1] for patterns, body in cases for part in inner_uses(body)]


def names_reached(table):
    """For each definition's name the names of those that it uses, by one step or several."""
    used = {name: names_used(cases) for name, params, result, cases in table[1]}
    reached = {}
    for name in used:
        found = {}
        waiting = list(used[name])
        while waiting:
            other = waiting.pop()
            if other not in found:
                found[other] = True
                waiting.extend(used[other])
        reached[name] = found
    return reached


def mates_by_name(table):
    """For each definition's name the names of its group, in the table's order."""
    reached = names_reached(table)
    return {
        name: [other for other in reached if other == name or other in reached[name] and name in reached[other]]
        for name in reached
    }


def parts_of(term):
    """The parts of a pattern, itself among them."""
    found = []
    waiting = [term]
    while waiting:
        part = waiting.pop()
        found.append(part)
        if part[0] != "?":
            waiting.extend(list(part[1:]))
    return found


def carried_places(params, cases):
    """The indexes of the parameters that are carried, ascending."""
    free = list(range(len(params)))
    for patterns, body in cases:
        parts = [part for term in patterns for part in parts_of(term)]
        free = [at for at in free if patterns[at][0] == "?" and parts.count(patterns[at]) == 1]
    return free


def order_of(args, patterns):
    """For each argument where the pattern stands that it is, each one of its own; None if they are not just all."""
    if len(args) != len(patterns):
        return None
    left = list(range(len(patterns)))
    order = []
    for arg in args:
        same = [at for at in left if patterns[at] == arg]
        if not same:
            return None
        order.append(same[0])
        left.remove(same[0])
    return tuple(order)


def are_parts(args, patterns):
    """Whether each argument is a part, as it stands, of a pattern, each of one of its own."""
    if not args:
        return True
    return any([
        args[0] in parts_of(pattern) and are_parts(args[1:], [*patterns[:at], *patterns[at + 1:]])
        for at, pattern in enumerate(patterns)
    ])


class Ways:
    """What the uses of a table hand on: their looked-at arguments, case by case and place by place."""

    def __init__(self, table):
        self.table = table
        self.mates = mates_by_name(table)
        self.places = {}
        self.kinds = {}
        self.params = {}
        for name, params, result, cases in table[1]:
            carried = carried_places(params, cases)
            self.places[name] = [at for at in range(len(params)) if at not in carried]
            self.kinds[name] = tuple([params[at] for at in self.places[name]])
            self.params[name] = params
        # Of each definition its cases, the patterns at looked-at parameters alone, as `choice` takes them.
        self.cases = {
            name: [(index, self.looked_at(name, patterns), body) for index, (patterns, body) in enumerate(cases)]
            for name, params, result, cases in table[1]
        }
        # Of each case the patterns of what bars it, and its level inner uses that stay.
        self.barring = {name: self.barring_of(name) for name in self.cases}
        self.levels = {name: [self.levels_of(name, case) for case in self.cases[name]] for name in self.cases}

    def looked_at(self, name, args):
        """The arguments, or patterns, at the looked-at parameters of the definition."""
        return tuple([args[at] for at in self.places[name]])

    def barring_of(self, name):
        """For each case the patterns of what bars it; carried parameters bar nothing."""
        rows = [patterns for index, patterns, body in self.cases[name]]
        return [bars(rows, row) for row in rows]

    def staying_uses(self, name, body):
        """The inner uses that stay, triples of the place, the definition's name and the looked-at arguments."""
        return [
            (place, part[1], self.looked_at(part[1], part[2:]))
            for place, part in enumerate(inner_uses(body))
            if part[1] in self.mates[name]
        ]

    def levels_of(self, name, case):
        """The level inner uses that stay, triples of the place, the definition's name and the arguments' order."""
        index, patterns, body = case
        orders = [(place, other, order_of(args, patterns)) for place, other, args in self.staying_uses(name, body)]
        return [told for told in orders if told[2] is not None]

    def is_case_formed(self, name, case):
        """Whether each inner use that stays hands on parts alone."""
        index, patterns, body = case
        return all([are_parts(args, patterns) for place, other, args in self.staying_uses(name, body)])

    def unformed(self):
        """The name of the first definition with an inner use that stays and is not as it is told; None if none has."""
        for name in self.cases:
            if not all([self.is_case_formed(name, case) for case in self.cases[name]]):
                return name
        return None
