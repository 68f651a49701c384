"""Claims, and whether a paper shows that one is so, whoever wrote it."""

from instances.conventions import is_tuple, is_whole
from instances.covers import check_covering
from instances.endings import checked_ways, is_round
from instances.errors import TemplateError
from instances.labels import written_use
from instances.outcomes import run_through
from instances.patterns import check_terms, fits, is_closed_term
from instances.roads import are_road_trees
from instances.stores import Store
from instances.tables import (
    bars, cases_by_name, check_case, check_name, check_table, check_use, choice, headers_of, is_use, meets_below,
    params_of, patterns_of, variables_for,
)
from instances.trees import is_tree
from instances.units import cases_seen, check_needed, check_two_units, meets_of_units, needed_cases


def accepts(claim, paper):
    """Whether it is a claim, and the paper one that is accepted for it, whatever both are."""
    if not isinstance(claim, tuple) or claim == () or not isinstance(claim[0], str) or claim[0] not in CHECKS:
        return False
    if len(claim) != LENGTHS[claim[0]]:
        return False
    check = CHECKS[claim[0]]
    try:
        return check(claim, paper)
    except TemplateError:
        # A word that is not right makes it no claim; a paper of wrong terms shows nothing.
        return False


def is_nothing(paper):
    """Whether it is ()."""
    return isinstance(paper, tuple) and paper == ()


def shows_covered(claim, paper):
    """Whether it is a tree of cases."""
    word, signature, kinds, goal, rows = claim
    check_covering(signature, kinds, goal, rows)
    return is_tree(signature, kinds, goal, rows, paper)


def shows_not_covered(claim, paper):
    """Whether it is an instance of the goal that fits no row."""
    word, signature, kinds, goal, rows = claim
    check_covering(signature, kinds, goal, rows)
    check_terms(signature, kinds, paper)
    return fits(paper, goal) and not any([fits(paper, row) for row in rows])


def shows_one_choice(claim, paper):
    """Whether it is a tree for all uses, and trees for the meets."""
    word, table, name = claim
    check_table(table)
    check_name(table, name)
    if not is_tuple(paper, 2, 2):
        return False
    rows = patterns_of(table, name)
    params = params_of(table, name)
    if not is_tree(table[0], params, variables_for(table, name), rows, paper[0]):
        return False
    return are_trees(table[0], params, meets_below(rows), paper[1])


def are_trees(signature, kinds, meets, value):
    """Whether it is trees for just these meets, which are told with two indexes and the rows that cover them."""
    if not is_tuple(value, len(meets), len(meets)) or not all([is_tuple(told, 3, 3) for told in value]):
        return False
    for (one, other, both, rows), (index, place, tree) in zip(meets, value):
        if not is_whole(index) or not is_whole(place) or (index, place) != (one, other):
            return False
        if not is_tree(signature, kinds, both, rows, tree):
            return False
    return True


def shows_no_choice(claim, paper):
    """Whether it is a use that has none or two."""
    word, table, name = claim
    check_table(table)
    check_name(table, name)
    if not is_use(table, paper) or paper[0] != name:
        return False
    return choice(cases_by_name(table)[name], paper[1])[0] != "chosen"


def shows_dead(claim, paper):
    """Whether it is a tree for the case, of what bars it."""
    word, table, name, case = claim
    check_table(table)
    check_name(table, name)
    check_case(table, name, case)
    rows = patterns_of(table, name)
    return is_tree(table[0], params_of(table, name), rows[case], bars(rows, rows[case]), paper)


def shows_chosen(claim, paper):
    """Whether it is a use that chooses the case."""
    word, table, name, case = claim
    check_table(table)
    check_name(table, name)
    check_case(table, name, case)
    if not is_use(table, paper) or paper[0] != name:
        return False
    return choice(cases_by_name(table)[name], paper[1]) == ("chosen", case)


def shows_value(claim, paper):
    """Whether the run finds this value, and it is the instances, in an order that is let."""
    word, table, use, term = claim
    check_table(table)
    check_use(table, use)
    running = run_through(cases_by_name(table), use, Store())
    if running.answer is not None or not is_closed_term(table[0], headers_of(table[1])[use[0]][1], term):
        return False
    if running.store.number_of(term) != running.made[0]:
        return False
    return are_instances(table, running, paper)


def are_instances(table, running, value):
    """Whether it is the instances of the run, each once and behind those that its body uses."""
    many = len(running.chosen)
    if not is_tuple(value, many, many) or not all([is_instance_told(table, told) for told in value]):
        return False
    stood = {}
    for told in value:
        name, args = told[0]
        key = (name, *[running.store.number_of(term) for term in args])
        if key in stood or key not in running.chosen or told != running.instance(key):
            return False
        if not all([other in stood for other in running.used[key]]):
            return False
        stood[key] = True
    return True


def is_instance_told(table, value):
    """Whether it is a use, a whole number, and a closed term of the use's result."""
    if not is_tuple(value, 3, 3) or not is_use(table, value[0]) or not is_whole(value[1]):
        return False
    return is_closed_term(table[0], headers_of(table[1])[value[0][0]][1], value[2])


def shows_end(claim, paper):
    """Whether it is the roads of the table, which is sound and formed."""
    word, table = claim
    return are_road_trees(checked_ways(table), paper)


def shows_round(claim, paper):
    """Whether it is a round of the table, which is sound and formed."""
    word, table = claim
    checked_ways(table)
    return is_round(table, paper)


def shows_alike(claim, paper):
    """Whether it is trees for the meets of cases that the units see."""
    word, program, one, other, name = claim
    check_two_units(program, one, other, name)
    meets = meets_of_units(program, one, other, name)
    return are_trees(program[0][0], params_of(program[0], name), meets, paper)


def shows_unlike(claim, paper):
    """Whether it is a use at which both units choose, unlike."""
    word, program, one, other, name = claim
    check_two_units(program, one, other, name)
    if not is_use(program[0], paper) or paper[0] != name:
        return False
    told = [choice(cases_seen(program, unit)[name], paper[1]) for unit in (one, other)]
    return told[0] != told[1] and all([answer[0] == "chosen" for answer in told])


def shows_needed(claim, paper):
    """Whether just these cases are needed, and it is ()."""
    word, table, name, patterns, cases = claim
    check_needed(table, name, patterns)
    if not isinstance(cases, tuple) or not all([is_whole(case) for case in cases]):
        return False
    return cases == needed_cases(table, name, patterns) and is_nothing(paper)


def shows_label(claim, paper):
    """Whether the text is the label, and it is ()."""
    word, table, use, text = claim
    check_table(table)
    check_use(table, use)
    return isinstance(text, str) and text == written_use(use) and is_nothing(paper)


# For each first word of a claim what looks at its paper, and how many elements the claim has.
CHECKS = {
    "covered": shows_covered,
    "not covered": shows_not_covered,
    "one choice": shows_one_choice,
    "no choice": shows_no_choice,
    "dead": shows_dead,
    "chosen": shows_chosen,
    "value": shows_value,
    "ends": shows_end,
    "goes round": shows_round,
    "alike": shows_alike,
    "unlike": shows_unlike,
    "needed": shows_needed,
    "label": shows_label,
}
LENGTHS = {
    "covered": 5,
    "not covered": 5,
    "one choice": 3,
    "no choice": 3,
    "dead": 4,
    "chosen": 4,
    "value": 4,
    "ends": 2,
    "goes round": 2,
    "alike": 5,
    "unlike": 5,
    "needed": 5,
    "label": 4,
}
