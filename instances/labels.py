"""Labels, which are names of instances, and listings of runs."""

from instances.errors import BadLabel, NoValue
from instances.outcomes import outcome
from instances.signatures import makers_by_kind, open_kinds
from instances.tables import cases_by_name, check_table, check_use, headers_of
from instances.words import FIGURES, MOST_FIGURES


def label_of(table, use):
    """The label of the use."""
    check_table(table)
    check_use(table, use)
    return written_use(use)


def written_name(name):
    """The figures of how many signs the name has, and itself."""
    return f"{len(name)}{name}"


def written_use(use):
    """The use as a label."""
    return written_name(use[0]) + "".join([written_term(term) for term in use[1]])


def written_term(term):
    """The closed term as it stands in a label."""
    written = []
    waiting = [term]
    while waiting:
        part = waiting.pop()
        if part[0] == "#":
            written.append(f"0{written_name(part[1])}{part[2]}_")
        else:
            written.append(written_name(part[0]))
            waiting.extend(list(reversed(part[1:])))
    return "".join(written)


def read_label(table, text):
    """The use that the text is the label of."""
    check_table(table)
    if not isinstance(text, str):
        raise BadLabel(None)
    reading = Reading(table, text)
    use = reading.read_use()
    if reading.at < len(text):
        raise BadLabel(reading.at)
    return use


class Reading:
    """A label of which the signs ahead of `at` have been read."""

    def __init__(self, table, text):
        self.text = text
        self.at = 0
        self.headers = {written_name(name): (name, params) for name, (params, result) in headers_of(table[1]).items()}
        self.strange = {kind: "0" + written_name(kind) for kind in open_kinds(table[0])}
        made = makers_by_kind(table[0])
        # For each kind what a term of it begins with, and which maker, with its arguments' kinds, that is.
        self.heads = {kind: {written_name(maker): (maker, needs) for maker, needs in made[kind]} for kind in made}

    def take_one_of(self, starts):
        """The one of these texts that stands there; none of them begins with another one."""
        left = list(starts)
        taken = 0
        while True:
            spot = self.at + taken
            left = [start for start in left if self.text[spot:spot + 1] == start[taken]]
            if not left:
                raise BadLabel(spot)
            taken += 1
            for start in left:
                if len(start) == taken:
                    self.at += taken
                    return start

    def take_number(self):
        """The number of a stranger, and the _ behind it."""
        figures = ""
        while figures == "" or self.text[self.at:self.at + 1] != "_":
            sign = self.text[self.at:self.at + 1]
            is_first_nought = figures == "" and sign == "0"
            if sign == "" or sign not in FIGURES or is_first_nought or len(figures) == MOST_FIGURES:
                raise BadLabel(self.at)
            figures = figures + sign
            self.at += 1
        self.at += 1
        return int(figures)

    def read_use(self):
        """The use that the signs tell."""
        name, params = self.headers[self.take_one_of(self.headers)]
        return (name, tuple([self.read_term(kind) for kind in params]))

    def read_term(self, kind):
        """A closed term of this kind."""
        # Of each maker that is begun: itself, the kinds of its arguments, and those that are read.
        begun = []
        part = self.begin_term(kind, begun)
        while begun:
            maker, needs, parts = begun[-1]
            if part is not None:
                parts.append(part)
            if len(parts) < len(needs):
                part = self.begin_term(needs[len(parts)], begun)
            else:
                begun.pop()
                part = (maker, *parts)
        return part

    def begin_term(self, kind, begun):
        """A stranger; or None, where a maker is begun."""
        starts = list(self.heads[kind])
        if kind in self.strange:
            starts.append(self.strange[kind])
        start = self.take_one_of(starts)
        if start not in self.heads[kind]:
            return ("#", kind, self.take_number())
        maker, needs = self.heads[kind][start]
        begun.append((maker, needs, []))
        return None


def listing(table, use):
    """The instances of the use, a row each: its label, the index of its case, and its value."""
    check_table(table)
    check_use(table, use)
    answer, found = outcome(cases_by_name(table), use)
    if answer[0] != "value":
        raise NoValue(answer)
    return "\n".join([f"{written_use(told)} = case {index} -> {written_term(value)}" for told, index, value in found])
