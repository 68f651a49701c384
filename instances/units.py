"""Units that see some cases each: what they choose, where they choose unlike, and what they link to."""

from instances.conventions import are_unlike, is_name, is_tuple, is_whole
from instances.errors import InvalidNumber, InvalidProgram, InvalidUse
from instances.meets import meet_of
from instances.outcomes import run_through
from instances.patterns import check_patterns
from instances.stores import Store
from instances.tables import (
    bars, cases_by_name, check_name, check_table, choice, is_table, is_use, params_of, patterns_of,
)
from instances.trees import instance_beside

MOST_UNITS = 6
MOST_ROOTS = 10


def is_program(value):
    """Whether it is a program, whatever it is."""
    if not is_tuple(value, 2, 2) or not is_table(value[0]):
        return False
    table, units = value
    if not is_tuple(units, 0, MOST_UNITS) or not all([is_unit(table, unit) for unit in units]):
        return False
    return are_unlike([name for name, seen, roots in units])


def is_unit(table, value):
    """Whether it is a name, what is seen of each definition, and up to 10 roots."""
    if not is_tuple(value, 3, 3) or not is_name(value[0]) or not is_tuple(value[1], len(table[1]), len(table[1])):
        return False
    if not all([is_seen(len(cases), seen) for (name, params, result, cases), seen in zip(table[1], value[1])]):
        return False
    return is_tuple(value[2], 0, MOST_ROOTS) and all([is_use(table, root) for root in value[2]])


def is_seen(many, value):
    """Whether it is a tuple of indexes of so many cases, ascending."""
    if not is_tuple(value, 0, many) or not all([is_whole(index) and 0 <= index < many for index in value]):
        return False
    return all([value[at] < value[at + 1] for at in range(len(value) - 1)])


def check_program(program):
    """Raises InvalidProgram for none."""
    if not is_program(program):
        raise InvalidProgram(program)


def check_unit(program, unit):
    """Raises InvalidNumber for no index of a unit."""
    if not is_whole(unit) or not 0 <= unit < len(program[1]):
        raise InvalidNumber(unit)


def check_two_units(program, one, other, name):
    """Checks the arguments of what is asked of two units and a definition, in their order."""
    check_program(program)
    check_unit(program, one)
    check_unit(program, other)
    check_name(program[0], name)


def cases_seen(program, unit):
    """For each definition's name the cases of the unit's own table, with their indexes in the whole table."""
    cases = cases_by_name(program[0])
    seen = dict(zip(cases, program[1][unit][1]))
    return {name: [case for case in cases[name] if case[0] in seen[name]] for name in cases}


def unit_verdict(program, one, use):
    """What the use chooses in the unit's own table, cases told by their indexes in the whole table."""
    check_program(program)
    check_unit(program, one)
    if not is_use(program[0], use):
        raise InvalidUse(use)
    return choice(cases_seen(program, one)[use[0]], use[1])


def needed(table, name, patterns):
    """The indexes of the cases that some instance of the patterns chooses, ascending."""
    check_needed(table, name, patterns)
    return needed_cases(table, name, patterns)


def check_needed(table, name, patterns):
    """Checks the arguments of what is asked of a definition and patterns, in their order."""
    check_table(table)
    check_name(table, name)
    check_patterns(table[0], params_of(table, name), patterns)


def needed_cases(table, name, patterns):
    """The same, for what is known to be right."""
    rows = patterns_of(table, name)
    goals = [(index, meet_of(patterns, row), bars(rows, row)) for index, row in enumerate(rows)]
    return tuple([
        index for index, both, barring in goals
        if both is not None and instance_beside(table[0], params_of(table, name), both, barring) is not None
    ])


def meets_of_units(program, one, other, name):
    """For each two unlike cases that the units see and that have a meet: the indexes, the meet, and what bars them."""
    ones = [(index, patterns) for index, patterns, body in cases_seen(program, one)[name]]
    others = [(index, patterns) for index, patterns, body in cases_seen(program, other)[name]]
    found = []
    for index, row in ones:
        for place, patterns in others:
            both = meet_of(row, patterns)
            if index != place and both is not None:
                barring = bars([told for at, told in ones], row) + bars([told for at, told in others], patterns)
                found.append((index, place, both, barring))
    return found


def unlike(program, one, other, name):
    """Any use of the definition at which both units choose, unlike; None if there is none."""
    check_two_units(program, one, other, name)
    return unlike_use(program, one, other, name)


def unlike_use(program, one, other, name):
    """The same, for what is known to be right."""
    table = program[0]
    for index, place, both, barring in meets_of_units(program, one, other, name):
        args = instance_beside(table[0], params_of(table, name), both, barring)
        if args is not None:
            return (name, args)
    return None


def link(program):
    """("linked", INSTANCES), ("stops", U, R, ANSWER) or ("clash", U, V, USE)."""
    check_program(program)
    store = Store()
    units = []
    for unit in range(len(program[1])):
        stop, found = instances_of_unit(program, unit, store)
        if stop is not None:
            return stop
        units.append(found)
    clash = first_clash(units)
    if clash is not None:
        return clash
    linked = {}
    for found in units:
        for key in found:
            linked.setdefault(key, found[key])
    return ("linked", tuple(list(linked.values())))


def instances_of_unit(program, unit, store):
    """What is told of the first root without a value, or None; and for each instance's key the instance."""
    cases = cases_seen(program, unit)
    found = {}
    for root, use in enumerate(program[1][unit][2]):
        running = run_through(cases, use, store)
        if running.answer is not None:
            return ("stops", unit, root, running.answer), found
        for key in running.chosen:
            found.setdefault(key, running.instance(key))
    return None, found


def first_clash(units):
    """What is told of the first two units that chose unlike for one use; None if no two did."""
    for later, found in enumerate(units):
        for unit in range(later):
            for key in found:
                if key in units[unit] and units[unit][key][1] != found[key][1]:
                    return ("clash", unit, later, found[key][0])
    return None
