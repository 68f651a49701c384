"""Signatures: kinds that are open or closed, the makers of their terms, and what follows."""

from instances.conventions import are_unlike, is_among, is_name, is_tuple, is_whole
from instances.errors import InvalidKind, InvalidNumber, InvalidSignature

MOST_KINDS = 8
MOST_MAKERS = 24
MOST_NEEDS = 3
MOST_PLACES = 4
MOST_SIZE = 8


def is_signature(value):
    """Whether it is a signature, whatever it is."""
    if not is_tuple(value, 2, 2):
        return False
    kinds, makers = value
    if not are_kinds_told(kinds):
        return False
    return are_makers_told(makers, [name for name, word in kinds]) and have_terms(kinds, makers)


def are_kinds_told(value):
    """Whether it is 1 to 8 kinds with their words, names unlike."""
    if not is_tuple(value, 1, MOST_KINDS) or not all([is_kind_told(told) for told in value]):
        return False
    return are_unlike([name for name, word in value])


def is_kind_told(value):
    """Whether it is a name and one of the words."""
    return is_tuple(value, 2, 2) and is_name(value[0]) and is_among(value[1], ("open", "closed"))


def are_makers_told(value, kinds):
    """Whether it is up to 24 makers for the kinds of these names, their own names unlike."""
    if not is_tuple(value, 0, MOST_MAKERS) or not all([is_maker_told(told, kinds) for told in value]):
        return False
    return are_unlike([name for name, needs, kind in value])


def is_maker_told(value, kinds):
    """Whether it is a name, up to 3 kinds of arguments, and a kind."""
    if not is_tuple(value, 3, 3):
        return False
    name, needs, kind = value
    if not is_name(name) or not is_tuple(needs, 0, MOST_NEEDS):
        return False
    return all([is_among(need, kinds) for need in needs]) and is_among(kind, kinds)


def have_terms(kinds, makers):
    """Whether each kind has a closed term."""
    # An open kind has strangers, whatever its makers need.
    filled = {name: word == "open" for name, word in kinds}
    # Each round fills one more kind at least, as long as there is one that can be filled.
    for _ in kinds:
        for name, needs, kind in makers:
            if all([filled[need] for need in needs]):
                filled[kind] = True
    return all(list(filled.values()))


def some_terms(signature):
    """For each kind a closed term."""
    found = {name: ("#", name, 1) for name in open_kinds(signature)}
    # As above: each round finds a term of one more kind at least.
    for _ in signature[0]:
        for name, needs, kind in signature[1]:
            if all([need in found for need in needs]):
                found.setdefault(kind, (name, *[found[need] for need in needs]))
    return found


def check_signature(signature):
    """Raises InvalidSignature for none."""
    if not is_signature(signature):
        raise InvalidSignature(signature)


def check_kind(signature, kind):
    """Raises InvalidKind for none of the signature's."""
    if not is_among(kind, kind_names(signature)):
        raise InvalidKind(kind)


def check_kinds(signature, kinds):
    """Raises InvalidKind for no tuple of 1 to 4 of the signature's kinds."""
    names = kind_names(signature)
    if not is_tuple(kinds, 1, MOST_PLACES) or not all([is_among(kind, names) for kind in kinds]):
        raise InvalidKind(kinds)


def kind_names(signature):
    """The names of the kinds, in order."""
    return [name for name, word in signature[0]]


def open_kinds(signature):
    """The names of the open kinds, in order."""
    return [name for name, word in signature[0] if word == "open"]


def makers_by_name(signature):
    """For each maker's name the kinds of its arguments and its kind."""
    return {name: (needs, kind) for name, needs, kind in signature[1]}


def makers_by_kind(signature):
    """For each kind its makers in order, each with the kinds of its arguments."""
    names = kind_names(signature)
    return {name: [(maker, needs) for maker, needs, kind in signature[1] if kind == name] for name in names}


def is_small(signature, kind):
    """Whether the kind has finitely many closed terms, those with strangers among them."""
    check_signature(signature)
    check_kind(signature, kind)
    return small_kinds(signature)[kind]


def small_kinds(signature):
    """For each kind whether it is small."""
    small = {name: False for name in kind_names(signature)}
    makers = makers_by_kind(signature)
    # A kind gets small behind all that it needs, so kinds that come round never do.
    for _ in signature[0]:
        for name, word in signature[0]:
            small[name] = word == "closed" and all([small[need] for maker, needs in makers[name] for need in needs])
    return small


def terms(signature, kind, size):
    """The closed terms of this kind and size without strangers, ascending."""
    check_signature(signature)
    check_kind(signature, kind)
    if not is_whole(size) or not 1 <= size <= MOST_SIZE:
        raise InvalidNumber(size)
    makers = makers_by_kind(signature)
    return tuple(terms_of_size(makers, sizes_of_terms(makers, size), kind, size, {}))


def sizes_of_terms(makers, most):
    """For each pair of a kind and a size up to this one whether there are such terms."""
    known = {}
    for size in range(1, most + 1):
        for kind in makers:
            known[(kind, size)] = any([splits(known, needs, size - 1) != [] for maker, needs in makers[kind]])
    return known


def splits(known, needs, total):
    """All rows of sizes, of which there are terms of the needed kinds, that come to the total."""
    if not needs:
        return [()] if total == 0 else []
    return [
        (size, *rest)
        for size in range(1, total + 1)
        if known[(needs[0], size)]
        for rest in splits(known, needs[1:], total - size)
    ]


def terms_of_size(makers, known, kind, size, kept):
    """The terms of this kind and size, ascending; `kept` has those that were made before."""
    if (kind, size) not in kept:
        found = []
        for maker, needs in makers[kind]:
            for sizes in splits(known, needs, size - 1):
                rows = [(maker,)]
                for need, part in zip(needs, sizes):
                    parts = terms_of_size(makers, known, need, part, kept)
                    rows = [(*row, term) for row in rows for term in parts]
                found.extend(rows)
        kept[(kind, size)] = sorted(found)
    return kept[(kind, size)]
