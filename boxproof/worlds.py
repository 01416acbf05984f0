"""Worlds: which tuples are worlds, what holds in them, and things called by a name."""

from boxproof.errors import NoName, NoStatement, NoWorld
from boxproof.statements import free_in, is_name, is_word, names_in

MOST_THINGS_OF_A_FACT = 3


def fit_world(world):
    size = world[0]
    return size >= 1 and fit_called(world[1], size) and fit_facts(world[2], size)


def fit_called(called, size):
    for name, thing in called:
        if not is_name(name) or not is_thing(thing, size):
            return False
    return rises([pair[0] for pair in called])


def fit_facts(facts, size):
    for word, things in facts:
        if not is_word(word) or len(things) > MOST_THINGS_OF_A_FACT:
            return False
        if not all([is_thing(thing, size) for thing in things]):
            return False
    return rises(facts)


def is_thing(thing, size):
    return 0 <= thing and thing < size


def rises(row):
    return all([row[k] < row[k + 1] for k in range(len(row) - 1)])


def calling(world, name, thing):
    size = world[0]
    if not is_thing(thing, size):
        raise NoWorld(f"no thing of a world of {size}: {thing}")
    others = [pair for pair in world[1] if pair[0] != name]
    return (size, tuple(sorted(others + [(name, thing)])), world[2])


def holds(world, A):
    if len(free_in(A)) > 0:
        raise NoStatement("a letter is free in it")
    called = dict(world[1])
    for name in names_in(A):
        if name not in called:
            raise NoName(f"nothing is called {name}")
    return Look(world).sees(A, called)


# Places are the things that names and letters stand for. What a quantifier comes to hangs on the
# places of its free letters alone, so it is kept by these: quantifiers within one another
# would else be gone through anew for each thing of each outer one.
class Look:
    def __init__(self, world):
        self.size = world[0]
        self.facts = dict([(fact, True) for fact in world[2]])
        self.known = {}

    def sees(self, A, places):
        if A[0] == "is":
            return (A[1], tuple([places[term] for term in A[2]])) in self.facts
        if A[0] == "false":
            return False
        if A[0] == "not":
            return not self.sees(A[1], places)
        if A[0] == "and":
            return self.sees(A[1], places) and self.sees(A[2], places)
        if A[0] == "or":
            return self.sees(A[1], places) or self.sees(A[2], places)
        if A[0] == "then":
            return not self.sees(A[1], places) or self.sees(A[2], places)
        return self.sees_quantifier(A, places)

    def sees_quantifier(self, A, places):
        key = (A, tuple([places[letter] for letter in free_in(A)]))
        if key not in self.known:
            self.known[key] = self.tries_things(A, places)
        return self.known[key]

    def tries_things(self, A, places):
        # One thing that fails settles an all, one that doesn't settles a some.
        settles = A[0] == "some"
        within = dict(places)
        for thing in range(self.size):
            within[A[1]] = thing
            if self.sees(A[2], within) == settles:
                return settles
        return not settles
