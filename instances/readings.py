"""What the rows of a text tell, read row by row."""

from instances.conventions import is_name
from instances.fitting import named_anew, text_of
from instances.signatures import MOST_KINDS, MOST_MAKERS, MOST_NEEDS, MOST_PLACES
from instances.tables import MOST_CASES, MOST_DEFINITIONS
from instances.units import MOST_ROOTS, MOST_UNITS
from instances.words import Line, rows_of, words_of


class Told:
    """What has been told so far, by names in the order in which they were told."""

    def __init__(self):
        # The word of each kind, and for each maker the kinds of its arguments and its kind.
        self.kinds = {}
        self.makers = {}
        self.templates = {}
        self.units = {}
        self.last_template = None
        self.last_unit = None

    def program(self):
        """What is told, as a program; it may be none as long as rows are lacking."""
        kinds = tuple([(name, self.kinds[name]) for name in self.kinds])
        makers = tuple([(name, *self.makers[name]) for name in self.makers])
        definitions = tuple([self.templates[name].definition() for name in self.templates])
        units = [self.units[name] for name in self.units]
        told = tuple([(unit.name, unit.seen_of(list(self.templates)), tuple(unit.roots)) for unit in units])
        return (((kinds, makers), definitions), told)


class Template:
    """A definition of which more cases may come."""

    def __init__(self, name, params, result):
        self.name = name
        self.params = params
        self.result = result
        self.cases = []
        # For the patterns of each case a text that only those have which are alike to them.
        self.known = {}

    def definition(self):
        """The definition with the cases that have been told."""
        return (self.name, self.params, self.result, tuple(self.cases))


class Unit:
    """A unit of which more may be told."""

    def __init__(self, name):
        self.name = name
        self.seen = {}
        self.roots = []

    def seen_of(self, names):
        """What is seen of the definitions of these names, in their order."""
        return tuple([self.seen.get(name, ()) for name in names])


class Frame:
    """A maker or an inner use whose arguments are being read."""

    def __init__(self, head, needs, may_have_less):
        self.head = head
        # The kinds of the arguments, None for one that is not known.
        self.needs = needs
        self.may_have_less = may_have_less
        self.parts = []

    def is_more_let(self):
        """Whether one more argument may stand."""
        return len(self.parts) < len(self.needs)

    def is_end_let(self):
        """Whether these arguments are enough."""
        return self.may_have_less or len(self.parts) == len(self.needs)

    def need(self):
        """The kind of the next argument."""
        return self.needs[len(self.parts)]


def read_part(told, line, kind, sort, variables):
    """A term of this kind, None for any: a "pattern", part of a "body" or of a "use", as the sort says.

    `variables` has for each variable's name its kind; those of a pattern are put into it."""
    frames = []
    part = begin_part(told, line, kind, sort, variables)
    while isinstance(part, Frame) or frames:
        if isinstance(part, Frame):
            frames.append(part)
            part = begin_part(told, line, part.need(), sort, variables)
            continue
        frame = frames[-1]
        frame.parts.append(part)
        if line.goes_on(frame.is_more_let(), frame.is_end_let()):
            part = begin_part(told, line, frame.need(), sort, variables)
        else:
            frames.pop()
            part = (*frame.head, *frame.parts)
    return part


def begin_part(told, line, kind, sort, variables):
    """A term without arguments, or a frame for those that are read next."""
    word = line.word()
    if word == "?" and sort != "use":
        return read_variable(line, kind, sort, variables)
    if word == "#" and sort == "use" and told.kinds[kind] == "open":
        return read_stranger(line, kind)
    if word not in told.makers and sort == "body":
        return begin_inner_use(told, line, kind)
    line.require(word in told.makers)
    needs, made = told.makers[word]
    line.require(kind is None or made == kind)
    line.take()
    if not needs:
        return (word,)
    line.take_one_of(("(",))
    return Frame((word,), needs, False)


def read_variable(line, kind, sort, variables):
    """A variable: in a pattern of this kind alone, in a body one of the patterns."""
    line.take()
    name = line.word()
    line.require(is_name(name))
    if sort == "pattern":
        line.require(variables.setdefault(name, kind) == kind)
    line.require(name in variables and (kind is None or variables[name] == kind))
    return ("?", line.take())


def read_stranger(line, kind):
    """A stranger of this open kind."""
    line.take()
    line.take_one_of((kind,))
    return ("#", kind, line.take_number(1, None))


def begin_inner_use(told, line, kind):
    """A frame for an inner use; if its definition has not been told, next to nothing is asked of its arguments."""
    name = line.word()
    line.require(is_name(name))
    if name not in told.templates:
        line.take()
        line.take_one_of(("(",))
        return Frame(("!", name), (None,) * MOST_PLACES, True)
    template = told.templates[name]
    line.require(kind is None or template.result == kind)
    line.take()
    line.take_one_of(("(",))
    return Frame(("!", name), template.params, False)


def read_parts(told, line, kinds, sort, variables):
    """Terms of these kinds, in brackets."""
    line.take_one_of(("(",))
    parts = []
    for at, kind in enumerate(kinds):
        if at > 0:
            line.take_one_of((",",))
        parts.append(read_part(told, line, kind, sort, variables))
    line.take_one_of((")",))
    return tuple(parts)


def read_use(told, line):
    """A use of a definition that has been told."""
    name = line.take_one_of(told.templates)
    return (name, read_parts(told, line, told.templates[name].params, "use", {}))


def read_kinds(told, line, least, most):
    """Kinds that have been told, in brackets."""
    line.take_one_of(("(",))
    if least == 0 and line.word() == ")":
        line.take()
        return ()
    found = [line.take_one_of(told.kinds)]
    while line.goes_on(len(found) < most, True):
        found.append(line.take_one_of(told.kinds))
    return tuple(found)


def read_numbers(line, end):
    """Whole numbers below the end, ascending, in brackets."""
    line.take_one_of(("(",))
    if line.word() == ")":
        line.take()
        return ()
    found = [line.take_number(0, end)]
    while line.goes_on(found[-1] + 1 < end, True):
        found.append(line.take_number(found[-1] + 1, end))
    return tuple(found)


def read_kind(told, line):
    """A row that tells a kind."""
    line.require(len(told.kinds) < MOST_KINDS)
    line.take()
    name = line.take_new(told.kinds)
    told.kinds[name] = line.take_one_of(("open", "closed"))


def read_maker(told, line):
    """A row that tells a maker."""
    line.require(len(told.makers) < MOST_MAKERS)
    line.take()
    name = line.take_new([*told.makers, *told.templates])
    needs = read_kinds(told, line, 0, MOST_NEEDS)
    told.makers[name] = (needs, line.take_one_of(told.kinds))


def read_template(told, line):
    """A row that tells a definition, its cases apart."""
    line.require(len(told.templates) < MOST_DEFINITIONS)
    line.take()
    name = line.take_new([*told.makers, *told.templates])
    params = read_kinds(told, line, 1, MOST_PLACES)
    told.last_template = Template(name, params, line.take_one_of(told.kinds))
    told.templates[name] = told.last_template


def read_case(told, line):
    """A row that tells a case of the last definition."""
    template = told.last_template
    line.require(template is not None and len(template.cases) < MOST_CASES)
    line.take()
    variables = {}
    patterns = read_parts(told, line, template.params, "pattern", variables)
    text = text_of(named_anew(patterns))
    line.require(text not in template.known)
    line.take_one_of(("=",))
    body = read_part(told, line, template.result, "body", variables)
    template.known[text] = True
    template.cases.append((patterns, body))


def read_unit(told, line):
    """A row that tells a unit."""
    line.require(len(told.units) < MOST_UNITS)
    line.take()
    told.last_unit = Unit(line.take_new(told.units))
    told.units[told.last_unit.name] = told.last_unit


def read_see(told, line):
    """A row that tells which cases of a definition the last unit sees."""
    unit = told.last_unit
    line.require(unit is not None)
    line.take()
    line.require(line.word() in told.templates and line.word() not in unit.seen)
    name = line.take()
    unit.seen[name] = read_numbers(line, len(told.templates[name].cases))


def read_root(told, line):
    """A row that tells a root of the last unit."""
    unit = told.last_unit
    line.require(unit is not None and len(unit.roots) < MOST_ROOTS)
    line.take()
    unit.roots.append(read_use(told, line))


READERS = {
    "kind": read_kind,
    "make": read_maker,
    "template": read_template,
    "case": read_case,
    "unit": read_unit,
    "see": read_see,
    "root": read_root,
}


def read_row(told, line):
    """Reads a row of words."""
    line.require(line.word() in READERS)
    reader = READERS[line.word()]
    reader(told, line)
    line.end()


def is_row_word(word):
    """Whether rows begin with this word."""
    return word in READERS


def told_by(text):
    """What the rows of a text tell; raises InvalidText at the first word of a row that may not stand at its place."""
    told = Told()
    for number, row in enumerate(rows_of(text)):
        words = words_of(row)
        if words:
            read_row(told, Line(number, words))
    return told
