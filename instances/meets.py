"""The meet of two patterns."""


def meet_of(one, other):
    """The patterns, named anew, that are just as special as both; None if nothing is as special as both."""
    places = Places()
    ones = places.add_patterns(one)
    others = places.add_patterns(other)
    if not places.make_alike(ones, others):
        return None
    return places.terms_at(ones)


def put_by_meet(names, goal, row):
    """What the goal's meet with the row puts for each of these variables of the goal; None if there is no meet."""
    places = Places()
    ones = places.add_patterns((*goal, *[("?", name) for name in names]))
    others = places.add_patterns(row)
    if not places.make_alike(ones[:len(goal)], others):
        return None
    told = places.terms_at(ones)
    return None if told is None else told[len(goal):]


class Places:
    """Terms as numbered places, of which several may be made one.

    Places instead of terms put for variables: each two are made one at most once, however often a
    variable stands, and what stands in several places is told once."""

    def __init__(self):
        # Of each place: the maker there or "?", the places below it, and a place that it was made one with.
        self.heads = []
        self.below = []
        self.links = []

    def add_patterns(self, patterns):
        """The places of the patterns, whose variables are taken for new ones."""
        variables = {}
        roots = [self.add_place(term, variables) for term in patterns]
        waiting = list(zip(roots, patterns))
        while waiting:
            place, term = waiting.pop()
            if term[0] != "?":
                self.below[place] = [self.add_place(part, variables) for part in term[1:]]
                waiting.extend(list(zip(self.below[place], term[1:])))
        return roots

    def add_place(self, term, variables):
        """A place for the term; a variable that has one keeps it."""
        if term[0] == "?" and term[1] in variables:
            return variables[term[1]]
        place = len(self.heads)
        self.heads.append(term[0])
        self.below.append([])
        self.links.append(place)
        if term[0] == "?":
            variables[term[1]] = place
        return place

    def place_of(self, place):
        """The place that now stands for this one and all that were made one with it."""
        while self.links[place] != place:
            # Shorter links for the next call; they lead to the same place.
            self.links[place] = self.links[self.links[place]]
            place = self.links[place]
        return place

    def make_alike(self, ones, others):
        """Makes each two places one, and what is below them; whether their makers let it."""
        waiting = list(zip(ones, others))
        while waiting:
            pair = waiting.pop()
            one, other = self.place_of(pair[0]), self.place_of(pair[1])
            if one == other:
                continue
            if self.heads[one] == "?":
                one, other = other, one
            self.links[other] = one
            if self.heads[other] != "?":
                if self.heads[one] != self.heads[other]:
                    return False
                waiting.extend(list(zip(self.below[one], self.below[other])))
        return True

    def terms_at(self, roots):
        """The patterns that stand there, named anew; None if one would have no end."""
        told = {}
        begun = {}
        many = 0
        waiting = [(root, False) for root in reversed(roots)]
        while waiting:
            place, are_parts_told = waiting.pop()
            place = self.place_of(place)
            if are_parts_told:
                told[place] = (self.heads[place], *self.told_below(place, told))
            elif place in told:
                continue
            elif place in begun:
                # It has been come to again on the way down from itself.
                return None
            elif self.heads[place] == "?":
                many += 1
                told[place] = ("?", f"v{many}")
            else:
                begun[place] = True
                waiting.append((place, True))
                waiting.extend([(part, False) for part in reversed(self.below[place])])
        return tuple([told[self.place_of(root)] for root in roots])

    def told_below(self, place, told):
        """The terms that are told of the places below this one."""
        return [told[self.place_of(part)] for part in self.below[place]]
