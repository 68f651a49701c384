"""Variables put for by terms, with an own stack instead of recursion: terms may be hundreds deep."""


def put_for(patterns, terms):
    """For each variable's name what is put for it, so that the patterns become the terms; None if nothing does.

    Variables of the terms are taken for things unlike all else."""
    found = {}
    waiting = list(zip(patterns, terms))
    while waiting:
        pattern, term = waiting.pop()
        if pattern[0] == "?":
            if found.setdefault(pattern[1], term) != term:
                return None
        elif pattern[0] != term[0]:
            return None
        else:
            waiting.extend(list(zip(pattern[1:], term[1:])))
    return found


def variables_of(patterns):
    """The names of the variables, each once, in the order in which they first stand, from the left."""
    found = {}
    waiting = list(reversed(patterns))
    while waiting:
        term = waiting.pop()
        if term[0] == "?":
            found[term[1]] = True
        else:
            waiting.extend(list(reversed(term[1:])))
    return list(found)


def variable_kinds(makers, kinds, patterns):
    """For each variable's name its kind, in the order in which they first stand; `makers` as makers_by_name tells."""
    found = {}
    waiting = list(reversed(list(zip(kinds, patterns))))
    while waiting:
        kind, term = waiting.pop()
        if term[0] == "?":
            found[term[1]] = kind
        else:
            waiting.extend(list(reversed(list(zip(makers[term[0]][0], term[1:])))))
    return found


def text_of(patterns):
    """A text that no other patterns for the same kinds have: each maker has its number of arguments."""
    words = []
    waiting = list(reversed(patterns))
    while waiting:
        term = waiting.pop()
        if term[0] == "?":
            words.append("?" + term[1])
        else:
            words.append(term[0])
            waiting.extend(list(reversed(term[1:])))
    return " ".join(words)


def put_in(term, found):
    """The pattern with each variable put for by what is found under its name; others stay as they are."""
    made = []
    waiting = [(term, False)]
    while waiting:
        now, are_parts_made = waiting.pop()
        if now[0] == "?":
            made.append(found.get(now[1], now))
        elif are_parts_made:
            ahead = len(made) - len(now) + 1
            parts = made[ahead:]
            del made[ahead:]
            made.append((now[0], *parts))
        else:
            waiting.append((now, True))
            waiting.extend([(part, False) for part in reversed(now[1:])])
    return made[0]


def named_anew(patterns):
    """The patterns, their variables v1, v2, .. in the order in which they first stand."""
    found = {name: ("?", f"v{number}") for number, name in enumerate(variables_of(patterns), start=1)}
    return tuple([put_in(term, found) for term in patterns])
