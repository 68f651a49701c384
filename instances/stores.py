"""Closed terms by number, so that their sizes and whether they are one are told at once."""


class Store:
    """Terms by number: a term has one number, however often it is made."""

    def __init__(self):
        # Of each number: the term, its size, and how deep terms stand in one another in it.
        self.terms = []
        self.sizes = []
        self.depths = []
        # For a term's head and its arguments' numbers its number.
        self.numbers = {}

    def number_for(self, head, below):
        """The number of the term with this head, a tuple, and the arguments of these numbers."""
        key = (head, *below)
        if key not in self.numbers:
            self.numbers[key] = len(self.terms)
            self.terms.append((*head, *[self.terms[number] for number in below]))
            self.sizes.append(1 + sum([self.sizes[number] for number in below]))
            self.depths.append(1 + max([self.depths[number] for number in below], default=0))
        return self.numbers[key]

    def number_of(self, term):
        """The number of the term, which may be hundreds deep."""
        made = []
        waiting = [(term, False)]
        while waiting:
            now, are_parts_made = waiting.pop()
            if now[0] == "#":
                made.append(self.number_for(now, []))
            elif are_parts_made:
                ahead = len(made) - len(now) + 1
                parts = made[ahead:]
                del made[ahead:]
                made.append(self.number_for(now[:1], parts))
            else:
                waiting.append((now, True))
                waiting.extend([(part, False) for part in reversed(now[1:])])
        return made[0]
