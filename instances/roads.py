"""Roads: what a use may come to by level inner uses alone, and whether that comes round."""

from instances.conventions import is_among, is_tuple, is_whole
from instances.meets import meet_of
from instances.signatures import some_terms
from instances.trees import instance_beside, is_tree, tree_for


class Road:
    """A road as far as it has come: which definition stands there, and what its beginning has become."""

    def __init__(self, name, order, goal, rows, behind, step):
        self.name = name
        # For each looked-at parameter of the definition where in the goal its argument stands.
        self.order = order
        self.goal = goal
        self.rows = rows
        # The road one step shorter, and this step; None for a beginning.
        self.behind = behind
        self.step = step
        self.tree = None

    def standing(self, goal):
        """What stands there, as this goal tells it."""
        return [goal[at] for at in self.order]

    def closer(self, goal, patterns):
        """The goal as the meet of what stands there with the patterns tells it; None if there is none."""
        both = meet_of(self.standing(goal), patterns)
        if both is None:
            return None
        stands = {at: place for place, at in enumerate(self.order)}
        return tuple([both[stands[at]] for at in range(len(goal))])

    def steps_round(self):
        """The steps since the same definition stood there with the same arguments, the last one first; None if none."""
        standing = self.standing(self.goal)
        steps = []
        road = self
        while road.behind is not None:
            steps.append(road.step)
            road = road.behind
            if road.name == self.name and road.standing(self.goal) == standing:
                return steps
        return None


def road_from(ways, name):
    """The road that begins with this definition."""
    many = len(ways.places[name])
    goal = tuple([("?", f"v{at}") for at in range(many)])
    return Road(name, list(range(many)), goal, (), None, None)


def goal_and_rows(ways, road, index):
    """The goal and the rows to be avoided where the road chooses this case; None if it does not meet what stands."""
    goal = road.closer(road.goal, ways.cases[road.name][index][1])
    if goal is None:
        return None
    rows = [road.closer(goal, patterns) for patterns in ways.barring[road.name][index]]
    return goal, (*road.rows, *[row for row in rows if row is not None])


def road_on(road, index, level, goal, rows):
    """The road one step further, by this level inner use of this case."""
    place, name, order = level
    return Road(name, [road.order[at] for at in order], goal, rows, road, (index, place))


def fork(ways, kinds, road, index):
    """What is told of the road where it chooses this case, and the roads from there on, in the order of the places."""
    told = goal_and_rows(ways, road, index)
    if told is None:
        return ("no",), []
    goal, rows = told
    tree = tree_for(ways.table[0], kinds, goal, rows)
    if tree is not None:
        return ("closed", tree), []
    levels = ways.levels[road.name][index]
    return ("open",), [road_on(road, index, level, goal, rows) for level in levels]


def road_or_tree(ways, name):
    """A road from this definition that comes round and is not closed, and its road tree; one of them is None."""
    start = road_from(ways, name)
    waiting = [(start, None)]
    while waiting:
        road, forks = waiting.pop()
        if forks is not None:
            road.tree = tuple([tree_of_fork(told, further) for told, further in forks])
            continue
        forks = [fork(ways, ways.kinds[name], road, index) for index in range(len(ways.cases[road.name]))]
        waiting.append((road, forks))
        for told, further in forks:
            for other in further:
                if other.steps_round() is not None:
                    return other, None
                waiting.append((other, None))
    return None, start.tree


def tree_of_fork(told, further):
    """What a road tree has of a case, where the roads from there on have their trees."""
    if told != ("open",):
        return told
    return ("open", tuple([(road.step[1], road.tree) for road in further]))


def round_of(ways, name, road):
    """A round, where a road from the definition of this name has come round and is not closed."""
    # The same instance takes the whole road, so what stands at its end stood there before.
    args = instance_beside(ways.table[0], ways.kinds[name], road.goal, road.rows)
    looked_at = dict(zip(ways.places[road.name], road.standing(args)))
    some = some_terms(ways.table[0])
    told = [looked_at.get(at, some[kind]) for at, kind in enumerate(ways.params[road.name])]
    return ((road.name, tuple(told)), tuple(reversed(road.steps_round())))


def first_round(ways):
    """Any round; None if there is none."""
    for name in ways.cases:
        road, tree = road_or_tree(ways, name)
        if road is not None:
            return round_of(ways, name, road)
    return None


def road_trees(ways):
    """The road trees of all definitions, in order; None if there is a round."""
    trees = []
    for name in ways.cases:
        road, tree = road_or_tree(ways, name)
        if road is not None:
            return None
        trees.append(tree)
    return tuple(trees)


def are_road_trees(ways, value):
    """Whether the value, whatever it is, is the road trees of all definitions, with any trees of cases."""
    names = list(ways.cases)
    if not is_tuple(value, len(names), len(names)):
        return False
    waiting = [(name, road_from(ways, name), part) for name, part in zip(names, value)]
    while waiting:
        name, road, tree = waiting.pop()
        many = len(ways.cases[road.name])
        if not is_tuple(tree, many, many):
            return False
        for index, part in enumerate(tree):
            further = further_roads(ways, ways.kinds[name], road, index, part)
            if further is None:
                return False
            waiting.extend([(name, other, below) for other, below in further])
    return True


def further_roads(ways, kinds, road, index, value):
    """Pairs of a road that goes on by this case and what is told of it; None if the value does not tell them."""
    told = goal_and_rows(ways, road, index)
    if told is None:
        return [] if is_tuple(value, 1, 1) and is_among(value[0], ("no",)) else None
    if not is_tuple(value, 2, 2):
        return None
    goal, rows = told
    if is_among(value[0], ("closed",)):
        return [] if is_tree(ways.table[0], kinds, goal, rows, value[1]) else None
    if not is_among(value[0], ("open",)) or tree_for(ways.table[0], kinds, goal, rows) is not None:
        return None
    levels = ways.levels[road.name][index]
    if not is_tuple(value[1], len(levels), len(levels)):
        return None
    if not all([is_part_at(level[0], part) for level, part in zip(levels, value[1])]):
        return None
    further = [(road_on(road, index, level, goal, rows), part[1]) for level, part in zip(levels, value[1])]
    # A road that comes round has no end, so nothing tells it.
    return further if all([other.steps_round() is None for other, below in further]) else None


def is_part_at(place, value):
    """Whether it is a pair of this place and anything."""
    return is_tuple(value, 2, 2) and is_whole(value[0]) and value[0] == place
