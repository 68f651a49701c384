"""Terms and patterns: which are right, which fit, and which are as special as others."""

from instances.conventions import is_among, is_name, is_tuple, is_whole
from instances.errors import InvalidPatterns, InvalidTerms
from instances.fitting import named_anew, put_for
from instances.meets import meet_of
from instances.signatures import check_kind, check_kinds, check_signature, makers_by_name, open_kinds


def is_term(signature, kind, value):
    """Whether the value, whatever it is, is a closed term of the kind."""
    check_signature(signature)
    check_kind(signature, kind)
    return is_closed_term(signature, kind, value)


def is_closed_term(signature, kind, value):
    """The same, for what is known to be a signature and a kind of it."""
    makers = makers_by_name(signature)
    strange = open_kinds(signature)
    waiting = [(kind, value)]
    while waiting:
        wanted, part = waiting.pop()
        if wanted in strange and is_stranger(wanted, part):
            continue
        if not is_made(makers, wanted, part):
            return False
        waiting.extend(list(zip(makers[part[0]][0], part[1:])))
    return True


def is_stranger(kind, value):
    """Whether it is a stranger of this open kind."""
    if not is_tuple(value, 3, 3) or not is_among(value[0], ("#",)) or not is_among(value[1], (kind,)):
        return False
    return is_whole(value[2]) and value[2] >= 1


def is_made(makers, kind, value):
    """Whether it begins with a maker of this kind and has as many arguments, whatever they are."""
    if not isinstance(value, tuple) or value == () or not is_among(value[0], makers):
        return False
    needs, made = makers[value[0]]
    return made == kind and len(value) == 1 + len(needs)


def are_patterns(signature, kinds, value):
    """Whether the value, whatever it is, is patterns for the kinds."""
    check_signature(signature)
    check_kinds(signature, kinds)
    return are_right_patterns(signature, kinds, value)


def are_right_patterns(signature, kinds, value):
    """The same, for what is known to be a signature and kinds of it."""
    if not is_tuple(value, len(kinds), len(kinds)):
        return False
    makers = makers_by_name(signature)
    kinds_found = {}
    waiting = list(zip(kinds, value))
    while waiting:
        kind, part = waiting.pop()
        if is_variable(part):
            if kinds_found.setdefault(part[1], kind) != kind:
                return False
        elif is_made(makers, kind, part):
            waiting.extend(list(zip(makers[part[0]][0], part[1:])))
        else:
            return False
    return True


def is_variable(value):
    """Whether it is a variable, of whatever kind."""
    return is_tuple(value, 2, 2) and is_among(value[0], ("?",)) and is_name(value[1])


def check_patterns(signature, kinds, patterns):
    """Raises InvalidPatterns for none for the kinds."""
    if not are_right_patterns(signature, kinds, patterns):
        raise InvalidPatterns(patterns)


def check_terms(signature, kinds, terms):
    """Raises InvalidTerms for no tuple of as many elements, and for the first that is no closed term."""
    if not is_tuple(terms, len(kinds), len(kinds)):
        raise InvalidTerms(None)
    for index, kind in enumerate(kinds):
        if not is_closed_term(signature, kind, terms[index]):
            raise InvalidTerms(index)


def check_two(signature, kinds, one, other):
    """Checks the arguments of what is asked of two patterns, in their order."""
    check_signature(signature)
    check_kinds(signature, kinds)
    check_patterns(signature, kinds, one)
    check_patterns(signature, kinds, other)


def do_fit(signature, kinds, patterns, terms):
    """Whether the closed terms fit the patterns."""
    check_signature(signature)
    check_kinds(signature, kinds)
    check_patterns(signature, kinds, patterns)
    check_terms(signature, kinds, terms)
    return put_for(patterns, terms) is not None


def is_as_special(signature, kinds, one, other):
    """Whether `one` is as special as `other`."""
    check_two(signature, kinds, one, other)
    return fits(one, other)


def are_alike(signature, kinds, one, other):
    """Whether each is as special as the other."""
    check_two(signature, kinds, one, other)
    return fits(one, other) and fits(other, one)


def fits(one, other):
    """Whether the terms or patterns fit the other patterns."""
    return put_for(other, one) is not None


def named(signature, kinds, patterns):
    """The patterns named anew."""
    check_signature(signature)
    check_kinds(signature, kinds)
    check_patterns(signature, kinds, patterns)
    return named_anew(patterns)


def meet(signature, kinds, one, other):
    """The meet of the patterns; None if there is none."""
    check_two(signature, kinds, one, other)
    return meet_of(one, other)
