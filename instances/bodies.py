"""Bodies of cases: which are right."""

from instances.conventions import is_among, is_tuple
from instances.patterns import is_made, is_variable
from instances.signatures import MOST_PLACES


def is_body(makers, headers, variables, kind, value):
    """Whether the value, whatever it is, is a body of this kind.

    `makers` is as makers_by_name tells; `headers` has for each definition's name its parameters and its result;
    `variables` has for each of the case's variables its kind."""
    waiting = [(kind, value)]
    while waiting:
        wanted, part = waiting.pop()
        if is_variable(part):
            if variables.get(part[1]) != wanted:
                return False
        elif is_inner_use(headers, wanted, part):
            waiting.extend(list(zip(headers[part[1]][0], part[2:])))
        elif is_made(makers, wanted, part):
            waiting.extend(list(zip(makers[part[0]][0], part[1:])))
        else:
            return False
    return True


def is_inner_use(headers, kind, value):
    """Whether it is an inner use of a definition of this result and has as many arguments, whatever they are."""
    if not is_tuple(value, 3, 2 + MOST_PLACES) or not is_among(value[0], ("!",)) or not is_among(value[1], headers):
        return False
    params, result = headers[value[1]]
    return result == kind and len(value) == 2 + len(params)
