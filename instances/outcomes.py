"""The run of a use, with own stacks: up to 150 uses may be run one within another."""

from instances.fitting import put_for
from instances.stores import Store
from instances.tables import choice

MOST_PARTS = 400
MOST_DEEP = 40
MOST_USES = 150


def outcome(cases, use):
    """What the run of the use tells, and its instances; `cases` is as cases_by_name tells, or has some of these."""
    running = run_through(cases, use, Store())
    if running.answer is not None:
        return running.answer, ()
    return ("value", running.term(running.made[0])), tuple([running.instance(key) for key in running.chosen])


def run_through(cases, use, store):
    """The run of the use, come to its end."""
    running = Running(cases, store)
    running.begin(use[0], [store.number_of(term) for term in use[1]])
    while running.tasks and running.answer is None:
        running.go_on()
    return running


class Running:
    """A run as far as it has come: what is still to do, the last task first, and the values that wait.

    A use's key is its name and its arguments' numbers in the store."""

    def __init__(self, cases, store):
        self.cases = cases
        self.store = store
        self.tasks = []
        self.made = []
        # For each use's key the number of its value; None as long as it is being run.
        self.results = {}
        # For each use's key the index of its case, in the order in which the values were found.
        self.chosen = {}
        # The keys of the uses that are being run, and for each use's key those that its body comes to.
        self.begun = []
        self.used = {}
        # What is told, if there is no value.
        self.answer = None

    def term(self, number):
        """The term of this number."""
        return self.store.terms[number]

    def use_of(self, key):
        """The use of a key."""
        return (key[0], tuple([self.term(number) for number in key[1:]]))

    def instance(self, key):
        """The instance of a use that has been run."""
        return (self.use_of(key), self.chosen[key], self.term(self.results[key]))

    def is_too_great(self, number):
        """Whether the term has too many parts, or they stand too deep in one another."""
        return self.store.sizes[number] > MOST_PARTS or self.store.depths[number] > MOST_DEEP

    def go_on(self):
        """Does the next task."""
        task, told, more = self.tasks.pop()
        if task == "work out":
            self.work_out(told, more)
        elif task == "make":
            self.made.append(self.store.number_for((told,), self.taken(more)))
        elif task == "come to":
            self.come_to(told, self.taken(more))
        else:
            self.end(told, more)

    def taken(self, many):
        """The last values that wait, so many, which are taken away."""
        made = self.made
        ahead = len(made) - many
        numbers = made[ahead:]
        del made[ahead:]
        return numbers

    def work_out(self, body, found):
        """Works out a part of a body, its variables being found under their names."""
        if body[0] == "?":
            self.made.append(found[body[1]])
            return
        if body[0] == "!":
            parts = body[2:]
            self.tasks.append(("come to", body[1], len(parts)))
        else:
            parts = body[1:]
            self.tasks.append(("make", body[0], len(parts)))
        self.tasks.extend([("work out", part, found) for part in reversed(parts)])

    def come_to(self, name, numbers):
        """Comes to an inner use."""
        key = (name, *numbers)
        self.used[self.begun[-1]].append(key)
        if any([self.is_too_great(number) for number in numbers]):
            self.answer = ("great",)
        elif key not in self.results:
            self.begin(name, numbers)
        elif self.results[key] is None:
            self.answer = ("round", self.use_of(key))
        else:
            self.made.append(self.results[key])

    def begin(self, name, numbers):
        """Begins to run a use that has not been come to."""
        key = (name, *numbers)
        if len(self.results) >= MOST_USES:
            self.answer = ("great",)
            return
        args = [self.term(number) for number in numbers]
        told = choice(self.cases[name], args)
        if told[0] != "chosen":
            self.answer = (told[0], self.use_of(key))
            return
        self.results[key] = None
        self.begun.append(key)
        self.used[key] = []
        patterns, body = self.case_of(name, told[1])
        found = put_for(patterns, args)
        self.tasks.append(("end", key, told[1]))
        self.tasks.append(("work out", body, {word: self.store.number_of(found[word]) for word in found}))

    def case_of(self, name, index):
        """The patterns and the body of the case of this index."""
        return [(patterns, body) for at, patterns, body in self.cases[name] if at == index][0]

    def end(self, key, index):
        """Ends the run of a use, whose value waits."""
        number = self.made[-1]
        self.begun.pop()
        if self.is_too_great(number):
            self.answer = ("great",)
        else:
            self.results[key] = number
            self.chosen[key] = index
