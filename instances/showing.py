"""Programs, and what they are made of, as rows of words."""


def shown(term):
    """A term, a pattern or a body as it is written."""
    written = []
    waiting = [term]
    while waiting:
        part = waiting.pop()
        if isinstance(part, str):
            written.append(part)
        elif part[0] == "?":
            written.append("?" + part[1])
        elif part[0] == "#":
            written.append(f"#{part[1]} {part[2]}")
        elif part[0] == "!":
            written.append(part[1])
            waiting.extend(in_brackets(part[2:]))
        else:
            written.append(part[0])
            waiting.extend(in_brackets(part[1:]))
    return "".join(written)


def in_brackets(parts):
    """What is written of the arguments, the last sign first; nothing without arguments."""
    if not parts:
        return []
    found = [")"]
    for part in reversed(parts):
        found.extend([part, ", "])
    return [*found[:-1], "("]


def shown_list(words):
    """Words in brackets, with commas between."""
    return "(" + ", ".join(words) + ")"


def shown_parts(parts):
    """Terms, patterns or bodies in brackets."""
    return shown_list([shown(part) for part in parts])


def shown_use(use):
    """A use as it is written."""
    return use[0] + shown_parts(use[1])


def rows_of_program(program):
    """The rows of a program, in order."""
    (kinds, makers), definitions = program[0]
    rows = [f"kind {name} {word}" for name, word in kinds]
    rows.extend([f"make {name} {shown_list(needs)} {kind}" for name, needs, kind in makers])
    for name, params, result, cases in definitions:
        rows.append(f"template {name} {shown_list(params)} {result}")
        rows.extend([f"case {shown_parts(patterns)} = {shown(body)}" for patterns, body in cases])
    for name, seen, roots in program[1]:
        rows.append(f"unit {name}")
        for definition, numbers in zip(definitions, seen):
            if numbers:
                words = [str(number) for number in numbers]
                rows.append(f"see {definition[0]} {shown_list(words)}")
        rows.extend([f"root {shown_use(root)}" for root in roots])
    return rows
