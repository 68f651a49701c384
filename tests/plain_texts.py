"""A slow plain reader of texts of programs, which asks of each word whether it may stand at its place: [31], [32]."""

import re

from instances.tables import is_table

NAME = re.compile(r"[a-z][a-z0-9_]{0,11}\Z")
NUMBER = re.compile(r"(0|[1-9][0-9]{0,19})\Z")
MOST = {"kind": 8, "make": 24, "template": 12, "unit": 6}


class PlainReader:
    """What has been told; each row is read by a generator that yields what is asked of the next word."""

    def __init__(self, text):
        self.kinds, self.makers, self.templates, self.units = {}, {}, {}, {}
        self.template = self.unit = None
        rows = text.split("\n") if text else []
        self.answer = None
        for number, row in enumerate(rows):
            word = self.refused_word(re.findall(r"[a-z0-9_]+|[^a-z0-9_ ]", row))
            if word is not None:
                self.answer = (number, word)
                return
        if not self.is_whole():
            self.answer = (len(rows), 0)

    def refused_word(self, words):
        if not words:
            return None
        asking = self.row()
        asked = next(asking)
        for at, word in enumerate(words):
            if asked is None or not asked(word):
                return at
            try:
                asked = asking.send(word)
            except StopIteration:
                asked = None
        return None if asked is None else len(words)

    def row(self):
        many = {"kind": self.kinds, "make": self.makers, "template": self.templates, "unit": self.units}
        def may_begin(word):
            if word in many:
                return len(many[word]) < MOST[word]
            if word == "case":
                return self.template is not None and len(self.template["cases"]) < 10
            if word == "see":
                return self.unit is not None
            return word == "root" and self.unit is not None and len(self.unit["roots"]) < 10
        word = yield may_begin
        readers = {
            "kind": self.kind_row, "make": self.make_row, "template": self.template_row, "case": self.case_row, "unit": self.unit_row,
            "see": self.see_row, "root": self.root_row,
        }
        yield from readers[word]()

    def new_name(self, *taken):
        return lambda word: bool(NAME.match(word)) and not any(word in names for names in taken)

    def sign(self, *signs):
        return lambda word: word in signs

    def kind_row(self):
        name = yield self.new_name(self.kinds)
        self.kinds[name] = yield self.sign("open", "closed")

    def listed(self, least, most):
        yield self.sign("(")
        found = []
        word = yield lambda word: word in self.kinds or word == ")" and least == 0
        while word != ")":
            found.append(word)
            word = yield lambda word: word == ")" or word == "," and len(found) < most
            if word == ",":
                word = yield lambda word: word in self.kinds
        return tuple(found)

    def make_row(self):
        name = yield self.new_name(self.makers, self.templates)
        needs = yield from self.listed(0, 3)
        self.makers[name] = (needs, (yield lambda word: word in self.kinds))

    def template_row(self):
        name = yield self.new_name(self.makers, self.templates)
        params = yield from self.listed(1, 4)
        result = yield lambda word: word in self.kinds
        self.template = self.templates[name] = {"params": params, "result": result, "cases": []}

    def case_row(self):
        kinds = {}
        patterns = yield from self.parts(self.template["params"], lambda kind: self.pattern(kind, kinds))
        is_alike = any(anew(patterns) == anew(other) for other, body in self.template["cases"])
        yield lambda word: word == "=" and not is_alike
        body = yield from self.body(self.template["result"], kinds)
        self.template["cases"].append((patterns, body))

    def parts(self, kinds, read):
        """Things of these kinds in brackets; for None in their place, 1 to 4 of any."""
        yield self.sign("(")
        found = []
        for at in range(4 if kinds is None else len(kinds)):
            found.append((yield from read(None if kinds is None else kinds[at])))
            is_last = at + 1 == (4 if kinds is None else len(kinds))
            signs = [")"] if is_last else [",", ")"] if kinds is None else [","]
            if (yield self.sign(*signs)) == ")":
                break
        return tuple(found)

    def made(self, name, read):
        needs = self.makers[name][0]
        return (name, *(yield from self.parts(needs, read))) if needs else (name,)

    def is_maker(self, kind):
        return lambda word: word in self.makers and kind in (None, self.makers[word][1])

    def pattern(self, kind, kinds):
        word = yield lambda word: word == "?" or self.is_maker(kind)(word)
        if word == "?":
            name = yield lambda word: bool(NAME.match(word)) and kinds.get(word, kind) == kind
            kinds[name] = kind
            return ("?", name)
        return (yield from self.made(word, lambda need: self.pattern(need, kinds)))

    def body(self, kind, kinds):
        def may_stand(word):
            if word == "?":
                return True
            if not NAME.match(word):
                return False
            if word in self.makers:
                return self.is_maker(kind)(word)
            return word not in self.templates or kind in (None, self.templates[word]["result"])
        word = yield may_stand
        if word == "?":
            return ("?", (yield lambda word: word in kinds and kind in (None, kinds[word])))
        if word in self.makers:
            return (yield from self.made(word, lambda need: self.body(need, kinds)))
        params = self.templates[word]["params"] if word in self.templates else None
        return ("!", word, *(yield from self.parts(params, lambda need: self.body(need, kinds))))

    def unit_row(self):
        name = yield self.new_name(self.units)
        self.unit = self.units[name] = {"seen": {}, "roots": []}

    def see_row(self):
        name = yield lambda word: word in self.templates and word not in self.unit["seen"]
        many = len(self.templates[name]["cases"])
        yield self.sign("(")
        found = []
        def is_next(word):
            return bool(NUMBER.match(word)) and (found[-1] if found else -1) < int(word) < many
        word = yield lambda word: word == ")" or is_next(word)
        while word != ")":
            found.append(int(word))
            word = yield lambda word: word == ")" or word == "," and found[-1] < many - 1
            if word == ",":
                word = yield is_next
        self.unit["seen"][name] = tuple(found)

    def root_row(self):
        name = yield lambda word: word in self.templates
        self.unit["roots"].append((name, (yield from self.parts(self.templates[name]["params"], self.closed))))

    def closed(self, kind):
        word = yield lambda word: word == "#" and self.kinds[kind] == "open" or self.is_maker(kind)(word)
        if word == "#":
            yield self.sign(kind)
            return ("#", kind, int((yield lambda word: bool(NUMBER.match(word)) and word != "0")))
        return (yield from self.made(word, self.closed))

    def is_whole(self):
        return is_table(self.program()[0])

    def program(self):
        makers = tuple((name, *told) for name, told in self.makers.items())
        definitions = tuple(
            (name, told["params"], told["result"], tuple(told["cases"])) for name, told in self.templates.items()
        )
        units = tuple(
            (name, tuple(told["seen"].get(other, ()) for other in self.templates), tuple(told["roots"]))
            for name, told in self.units.items()
        )
        return ((tuple(self.kinds.items()), makers), definitions), units


def anew(terms):
    """The terms with the variables told by the order in which they stand."""
    names = {}

    def told(term):
        if term[0] == "?":
            return ("?", names.setdefault(term[1], len(names)))
        return (term[0], *[told(part) for part in term[1:]])

    return [told(term) for term in terms]
