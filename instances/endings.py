"""Groups of definitions, and whether each use ends: rounds, and roads that show that there is none."""

from instances.conventions import is_tuple, is_whole
from instances.errors import Unformed, Unsound
from instances.roads import first_round, road_trees
from instances.staying import Ways, carried_places, mates_by_name
from instances.tables import check_name, check_table, choice, fault_of, is_use


def groups(table):
    """The groups of definitions, each a tuple of names."""
    check_table(table)
    mates = mates_by_name(table)
    return tuple([tuple(mates[name]) for name in mates if mates[name][0] == name])


def carried(table, name):
    """The indexes of the definition's carried parameters, ascending."""
    check_table(table)
    check_name(table, name)
    return tuple([carried_places(params, cases) for told, params, result, cases in table[1] if told == name][0])


def is_formed(table):
    """Whether each inner use that stays hands on parts alone at looked-at parameters."""
    check_table(table)
    return Ways(table).unformed() is None


def unsound(table):
    """The name of the first definition that is not sound; None if the table is sound."""
    for name, params, result, cases in table[1]:
        if fault_of(table, name) is not None:
            return name
    return None


def checked_ways(table):
    """What the uses of the table hand on, where it is a formed and sound table."""
    check_table(table)
    ways = Ways(table)
    name = ways.unformed()
    if name is not None:
        raise Unformed(name)
    name = unsound(table)
    if name is not None:
        raise Unsound(name)
    return ways


def loop(table):
    """Any round, a pair of a use and its steps; None if each use ends."""
    return first_round(checked_ways(table))


def roads(table):
    """The road trees of all definitions, in order; None if there is a round."""
    return road_trees(checked_ways(table))


def is_round(table, value):
    """Whether the value, whatever it is, is a round of the table."""
    check_table(table)
    if not is_tuple(value, 2, 2) or not is_use(table, value[0]) or not are_steps(value[1]):
        return False
    ways = Ways(table)
    name, args = value[0]
    start = ways.looked_at(name, args)
    standing = (name, start)
    for step in value[1]:
        standing = stepped(ways, standing, step)
        if standing is None:
            return False
    return standing == (name, start)


def are_steps(value):
    """Whether it is one pair of whole numbers or more."""
    if not isinstance(value, tuple) or value == ():
        return False
    return all([is_tuple(step, 2, 2) and is_whole(step[0]) and is_whole(step[1]) for step in value])


def stepped(ways, standing, step):
    """The definition and the looked-at arguments that the step comes to; None if it may not be taken there."""
    name, args = standing
    index, place = step
    if choice(ways.cases[name], args) != ("chosen", index):
        return None
    for at, other, order in ways.levels[name][index]:
        if at == place:
            return (other, tuple([args[spot] for spot in order]))
    return None
