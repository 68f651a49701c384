"""Certificates: claims that are so, each with a paper that the checker accepts."""

from instances.covers import check_covering
from instances.endings import checked_ways
from instances.errors import NoValue
from instances.outcomes import outcome
from instances.roads import first_round, road_trees
from instances.tables import (
    bars, cases_by_name, check_case, check_name, check_table, check_use, fault_of, meets_below, params_of, patterns_of,
    variables_for,
)
from instances.trees import instance_beside, tree_for
from instances.units import check_two_units, meets_of_units, unlike_use


def certify_cover(signature, kinds, goal, rows):
    """Certifies "covered" or "not covered"."""
    check_covering(signature, kinds, goal, rows)
    words = (signature, kinds, goal, rows)
    tree = tree_for(signature, kinds, goal, rows)
    if tree is not None:
        return ("covered", *words), tree
    return ("not covered", *words), instance_beside(signature, kinds, goal, rows)


def certify_choice(table, name):
    """Certifies "one choice" or "no choice"."""
    check_table(table)
    check_name(table, name)
    use = fault_of(table, name)
    if use is not None:
        return ("no choice", table, name), use
    rows = patterns_of(table, name)
    params = params_of(table, name)
    tree = tree_for(table[0], params, variables_for(table, name), rows)
    return ("one choice", table, name), (tree, trees_for(table[0], params, meets_below(rows)))


def trees_for(signature, kinds, meets):
    """Triples of two indexes and a tree of cases, for meets that are told with them and the rows that cover them."""
    return tuple([(one, other, tree_for(signature, kinds, both, rows)) for one, other, both, rows in meets])


def certify_case(table, name, case):
    """Certifies "dead" or "chosen"."""
    check_table(table)
    check_name(table, name)
    check_case(table, name, case)
    rows = patterns_of(table, name)
    params = params_of(table, name)
    barring = bars(rows, rows[case])
    tree = tree_for(table[0], params, rows[case], barring)
    if tree is not None:
        return ("dead", table, name, case), tree
    return ("chosen", table, name, case), (name, instance_beside(table[0], params, rows[case], barring))


def certify_run(table, use):
    """Certifies "value"."""
    check_table(table)
    check_use(table, use)
    answer, found = outcome(cases_by_name(table), use)
    if answer[0] != "value":
        raise NoValue(answer)
    return ("value", table, use, answer[1]), found


def certify_ending(table):
    """Certifies "ends" or "goes round"."""
    ways = checked_ways(table)
    trees = road_trees(ways)
    if trees is not None:
        return ("ends", table), trees
    return ("goes round", table), first_round(ways)


def certify_units(program, one, other, name):
    """Certifies "alike" or "unlike"."""
    check_two_units(program, one, other, name)
    use = unlike_use(program, one, other, name)
    if use is not None:
        return ("unlike", program, one, other, name), use
    table = program[0]
    meets = meets_of_units(program, one, other, name)
    return ("alike", program, one, other, name), trees_for(table[0], params_of(table, name), meets)
