"""Tables of definitions, what their uses choose, and whether each use chooses one."""

from instances.bodies import is_body
from instances.conventions import are_unlike, is_among, is_name, is_tuple, is_whole
from instances.errors import InvalidName, InvalidNumber, InvalidTable, InvalidUse
from instances.fitting import named_anew, text_of, variable_kinds
from instances.meets import meet_of
from instances.patterns import are_right_patterns, fits, is_closed_term
from instances.signatures import MOST_PLACES, is_signature, kind_names, makers_by_name
from instances.trees import instance_beside

MOST_DEFINITIONS = 12
MOST_CASES = 10


def is_table(value):
    """Whether it is a table, whatever it is."""
    if not is_tuple(value, 2, 2) or not is_signature(value[0]):
        return False
    signature, definitions = value
    if not are_definitions_told(signature, definitions):
        return False
    headers = headers_of(definitions)
    return all([are_cases(signature, headers, params, result, cases) for name, params, result, cases in definitions])


def are_definitions_told(signature, value):
    """Whether it is up to 12 definitions, whatever their cases are, names unlike one another and the makers'."""
    kinds = kind_names(signature)
    if not is_tuple(value, 0, MOST_DEFINITIONS) or not all([is_definition_told(kinds, told) for told in value]):
        return False
    return are_unlike([name for name, params, result, cases in value] + list(makers_by_name(signature)))


def is_definition_told(kinds, value):
    """Whether it is a name, 1 to 4 kinds of parameters, the kind of the result, and cases, whatever they are."""
    if not is_tuple(value, 4, 4):
        return False
    name, params, result, cases = value
    if not is_name(name) or not is_tuple(params, 1, MOST_PLACES):
        return False
    return all([is_among(kind, kinds) for kind in params]) and is_among(result, kinds)


def headers_of(definitions):
    """For each definition's name its parameters and its result."""
    return {name: (params, result) for name, params, result, cases in definitions}


def are_cases(signature, headers, params, result, value):
    """Whether it is up to 10 cases for these parameters and this result, no two of them alike."""
    if not is_tuple(value, 0, MOST_CASES):
        return False
    if not all([is_case(signature, headers, params, result, told) for told in value]):
        return False
    return are_unlike([text_of(named_anew(patterns)) for patterns, body in value])


def is_case(signature, headers, params, result, value):
    """Whether it is patterns for these parameters, and a body of this result for them."""
    if not is_tuple(value, 2, 2) or not are_right_patterns(signature, params, value[0]):
        return False
    makers = makers_by_name(signature)
    return is_body(makers, headers, variable_kinds(makers, params, value[0]), result, value[1])


def check_table(table):
    """Raises InvalidTable for none."""
    if not is_table(table):
        raise InvalidTable(table)


def check_name(table, name):
    """Raises InvalidName for none of the table's definitions."""
    if not is_among(name, headers_of(table[1])):
        raise InvalidName(name)


def check_case(table, name, case):
    """Raises InvalidNumber for no index of a case of the definition."""
    if not is_whole(case) or not 0 <= case < len(patterns_of(table, name)):
        raise InvalidNumber(case)


def check_use(table, use):
    """Raises InvalidUse for none of the table."""
    if not is_use(table, use):
        raise InvalidUse(use)


def is_use(table, value):
    """Whether the value, whatever it is, is a use of the table."""
    headers = headers_of(table[1])
    if not is_tuple(value, 2, 2) or not is_among(value[0], headers):
        return False
    params = headers[value[0]][0]
    if not is_tuple(value[1], len(params), len(params)):
        return False
    return all([is_closed_term(table[0], kind, term) for kind, term in zip(params, value[1])])


def params_of(table, name):
    """The kinds of the definition's parameters."""
    return headers_of(table[1])[name][0]


def cases_by_name(table):
    """For each definition's name its cases, triples of the index, the patterns and the body."""
    return {
        name: [(index, patterns, body) for index, (patterns, body) in enumerate(cases)]
        for name, params, result, cases in table[1]
    }


def patterns_of(table, name):
    """The patterns of the definition's cases, in order."""
    return [patterns for index, patterns, body in cases_by_name(table)[name]]


def choice(cases, args):
    """What these arguments choose among the cases, told as `verdict` does by the indexes that stand there."""
    fitting = [(index, patterns) for index, patterns, body in cases if fits(args, patterns)]
    least = [told[0] for told in fitting if not any([other != told and fits(other[1], told[1]) for other in fitting])]
    if not least:
        return ("none",)
    if len(least) > 1:
        return ("two", least[0], least[1])
    # Whatever else fits has one of them that is as special, so it is this one.
    return ("chosen", least[0])


def verdict(table, use):
    """What the use chooses: ("chosen", I), ("none",) or ("two", I, J)."""
    check_table(table)
    check_use(table, use)
    return choice(cases_by_name(table)[use[0]], use[1])


def fault(table, name):
    """A use of the definition that has none or two; None if it is sound."""
    check_table(table)
    check_name(table, name)
    return fault_of(table, name)


def fault_of(table, name):
    """The same, for what is known to be a table and a name of it."""
    rows = patterns_of(table, name)
    goals = [(variables_for(table, name), rows)] + [(both, below) for one, other, both, below in meets_below(rows)]
    for goal, below in goals:
        args = instance_beside(table[0], params_of(table, name), goal, below)
        if args is not None:
            return (name, args)
    return None


def variables_for(table, name):
    """Patterns for the definition's parameters that are variables, all unlike."""
    return tuple([("?", f"v{at}") for at in range(len(params_of(table, name)))])


def meets_below(rows):
    """For each two of the rows that have a meet: their indexes, the meet, and the rows that are as special as both."""
    found = []
    for index, one in enumerate(rows):
        for later in range(index + 1, len(rows)):
            both = meet_of(one, rows[later])
            if both is not None:
                found.append((index, later, both, [row for row in rows if fits(row, both)]))
    return found


def bars(rows, patterns):
    """Those of the rows to which the patterns are not as special as."""
    return [row for row in rows if not fits(patterns, row)]


def chosen_use(table, name, case):
    """A use that chooses the case; None if it is dead."""
    check_table(table)
    check_name(table, name)
    check_case(table, name, case)
    rows = patterns_of(table, name)
    args = instance_beside(table[0], params_of(table, name), rows[case], bars(rows, rows[case]))
    return None if args is None else (name, args)


def closing(table, name):
    """All meets of two or more cases' patterns, named anew, that are alike to none of the cases', ascending."""
    check_table(table)
    check_name(table, name)
    rows = [named_anew(patterns) for patterns in patterns_of(table, name)]
    known = {text_of(row): True for row in rows}
    found = []
    waiting = list(rows)
    while waiting:
        one = waiting.pop()
        for other in rows:
            both = meet_of(one, other)
            if both is not None and text_of(both) not in known:
                known[text_of(both)] = True
                found.append(both)
                waiting.append(both)
    return tuple(sorted(found))
