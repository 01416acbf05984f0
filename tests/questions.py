"""Questions, that is givens, a goal and how many names may be used, with how the search must end for each."""

import itertools
import random

from boxproof.texts import read


def both_ways(first, second):
    return f"(({first} then {second}) and ({second} then {first}))"


# Givens, goal, most, and "shut", "done" or "far".
TEXTS = (
    ((), "false", 1, "done"),
    ((), "p", 1, "done"),
    ((), "not p", 1, "done"),
    ((), "f(a)", 1, "done"),
    ((), "not false", 1, "shut"),
    ((), "(p or not p)", 1, "shut"),
    (("p",), "p", 1, "shut"),
    (("false",), "p", 1, "shut"),
    (("p", "not p"), "q", 1, "shut"),
    (("p", "p"), "p", 1, "shut"),
    (("p", "p", "q"), "(q and p)", 1, "shut"),
    (("not not p",), "p", 1, "shut"),
    (("p",), "not not p", 1, "shut"),
    (("(p and q)",), "p", 1, "shut"),
    (("(p and q)",), "q", 1, "shut"),
    (("(p and q)",), "r", 1, "done"),
    (("p", "q"), "(p and q)", 1, "shut"),
    (("p",), "(p and q)", 1, "done"),
    (("(p or q)",), "(q or p)", 1, "shut"),
    (("(p or q)",), "p", 1, "done"),
    (("(p or p)",), "p", 1, "shut"),
    (("not (p or q)",), "not q", 1, "shut"),
    (("not (p and q)", "p"), "not q", 1, "shut"),
    (("not (p and q)", "q"), "not p", 1, "shut"),
    (("(p then q)", "p"), "q", 1, "shut"),
    (("(p then q)", "not q"), "not p", 1, "shut"),
    (("(p then q)", "q"), "p", 1, "done"),
    (("not (p then q)",), "(p and not q)", 1, "shut"),
    ((), "(p then p)", 1, "shut"),
    ((), "(((p then q) then p) then p)", 1, "shut"),
    ((), "((p then q) or (q then p))", 1, "shut"),
    ((), both_ways(both_ways(both_ways("p", "q"), "r"), both_ways("p", both_ways("q", "r"))), 1, "shut"),
    (("all X f(X)",), "f(a)", 1, "shut"),
    (("all X f(X)",), "some X f(X)", 1, "shut"),
    (("all X f(X)", "some X not f(X)"), "p", 1, "shut"),
    (("all X f(X)",), "g(a)", 1, "done"),
    (("all X f(X)",), "p", 1, "done"),
    (("all X p",), "p", 1, "shut"),
    (("all X p",), "q", 1, "done"),
    (("all X all Y p",), "q", 1, "done"),
    (("all X all Y f(Y)",), "some X all Y f(X)", 1, "far"),
    (("all X all Y f(Y)",), "some X all Y f(X)", 2, "shut"),
    (("some X p",), "p", 1, "shut"),
    (("some X p",), "q", 1, "done"),
    (("some X p", "some Y p", "all X f(X)"), "q", 1, "done"),
    (("some X f(X)",), "some Y f(Y)", 1, "shut"),
    (("some X f(X)",), "all X f(X)", 2, "done"),
    (("some X f(X)",), "all X f(X)", 1, "far"),
    (("f(a)", "some X f(X)"), "g(a)", 1, "done"),
    (("f(a)", "some X g(X)"), "p", 1, "far"),
    (("f(a)", "some X g(X)"), "p", 2, "done"),
    (("f(a)", "some X p"), "q", 1, "far"),
    (("not some X f(X)",), "all X not f(X)", 1, "shut"),
    (("not all X f(X)",), "some X not f(X)", 1, "shut"),
    (("not some X f(X)", "f(b)"), "false", 1, "shut"),
    (("all X (man(X) then mortal(X))", "man(tom)"), "mortal(tom)", 1, "shut"),
    (("all X (man(X) then mortal(X))", "mortal(tom)"), "man(tom)", 1, "done"),
    (("some X all Y r(X, Y)",), "all Y some X r(X, Y)", 2, "shut"),
    (("all Y some X r(X, Y)",), "some X all Y r(X, Y)", 5, "far"),
    (("all X some Y r(X, Y)",), "false", 3, "far"),
    (("all X some Y r(X, Y)",), "false", 1, "far"),
    (("all X some Y r(Y, Y)",), "false", 2, "done"),
    (("all X some Y p",), "q", 1, "done"),
    (("f(a)", "all X some Y p"), "q", 1, "far"),
    (("f(a)", "all X some Y p"), "q", 2, "done"),
    ((), "some Y all X (f(Y) then f(X))", 3, "shut"),
    ((), "some Y all X (f(Y) then f(X))", 2, "far"),
    ((), "not some X all Y " + both_ways("f(Y, X)", "not f(Y, Y)"), 1, "shut"),
    (("f(c0)", "not g(c2)"), "(all X f(X) or some X (g(X) and f(X)))", 8, "done"),
    (("(some X f(X) or some X g(X))", "not some X f(X)", "not some X g(X)"), "p", 8, "shut"),
    (("(some X f(X) or some X g(X))", "all X not f(X)", "all X not g(X)"), "p", 1, "shut"),
    (("(some X f(X) or some X g(X))", "all X not f(X)"), "p", 1, "done"),
    (
        ("some X p(X)", "all X (f(X) then (not g(X) and r(X)))", "all X (p(X) then (g(X) and f(X)))",
         "(all X (p(X) then q(X)) or some X (p(X) and r(X)))"),
        "some X (q(X) and p(X))", 8, "shut",
    ),
    (
        ("all X all Y " + both_ways("q(X, Y)", "all Z " + both_ways("f(Z, X)", "f(Z, Y)")),),
        "all X all Y " + both_ways("q(X, Y)", "q(Y, X)"), 8, "shut",
    ),
    (
        (),
        both_ways(
            both_ways("some X all Y " + both_ways("p(X)", "p(Y)"), both_ways("some X q(X)", "all Y q(Y)")),
            both_ways("some X all Y " + both_ways("q(X)", "q(Y)"), both_ways("some X p(X)", "all Y p(Y)")),
        ),
        8, "shut",
    ),
    (
        ("r(a, b)", "r(b, c)", "all X all Y all Z ((r(X, Y) and r(Y, Z)) then r(X, Z))", "all X not r(X, X)"),
        "(r(a, c) and not r(c, a))", 8, "shut",
    ),
)

QUESTIONS = tuple((tuple(read(text) for text in givens), read(goal), most, end) for givens, goal, most, end in TEXTS)

# Wolves, foxes, birds, caterpillars, snails and grain, and who eats whom: an old riddle for searchers like this one.
RIDDLE = tuple(read(text) for text in (
    "all X (wolf(X) then animal(X))", "some X wolf(X)", "all X (fox(X) then animal(X))", "some X fox(X)",
    "all X (bird(X) then animal(X))", "some X bird(X)", "all X (worm(X) then animal(X))", "some X worm(X)",
    "all X (snail(X) then animal(X))", "some X snail(X)", "all X (grain(X) then plant(X))", "some X grain(X)",
    "all X (animal(X) then (all Y (plant(Y) then eats(X, Y)) or all Y (((animal(Y) and smaller(Y, X)) "
    "and some Z (plant(Z) and eats(Y, Z))) then eats(X, Y))))",
    "all X all Y ((bird(Y) and (snail(X) or worm(X))) then smaller(X, Y))",
    "all X all Y ((bird(X) and fox(Y)) then smaller(X, Y))", "all X all Y ((fox(X) and wolf(Y)) then smaller(X, Y))",
    "all X all Y ((wolf(X) and (fox(Y) or grain(Y))) then not eats(X, Y))",
    "all X all Y ((bird(X) and worm(Y)) then eats(X, Y))", "all X all Y ((bird(X) and snail(Y)) then not eats(X, Y))",
    "all X ((worm(X) or snail(X)) then some Y (plant(Y) and eats(X, Y)))",
))
RIDDLE_GOAL = read("some X some Y ((animal(X) and animal(Y)) and some Z (grain(Z) and (eats(Y, Z) and eats(X, Y))))")


def by_chance(chance, letters, names, deepest):
    """A statement in which no letters but these are free."""
    kind = chance.choice(("is", "not", "and", "or", "then", "all", "some", "all", "some"))
    if deepest == 1 or kind == "is":
        terms = letters + letters + names
        length = chance.choice((0, 1, 1, 2)) if terms else 0
        if chance.random() < 0.06:
            return ("false",)
        return ("is", ("p", "f", "r")[length], tuple(chance.choice(terms) for place in range(length)))
    if kind == "not":
        return ("not", by_chance(chance, letters, names, deepest - 1))
    if kind in ("all", "some"):
        letter = chance.choice("XYZ")
        return (kind, letter, by_chance(chance, letters + (letter,), names, deepest - 1))
    return (kind,) + tuple(by_chance(chance, letters, names, deepest - 1) for part in range(2))


def questions_by_chance(seed, many):
    chance = random.Random(seed)
    for often in range(many):
        names = chance.choice(((), (), ("a",), ("a", "b"), ("c0", "c2"), ("b", "c1", "c10")))
        givens = [by_chance(chance, (), names, chance.choice((2, 3, 4))) for given in range(chance.choice((0, 1, 2, 3)))]
        goal = by_chance(chance, (), names, chance.choice((2, 3, 4, 5)))
        yield tuple(givens), goal, chance.choice((1, 2, 3, 4, 6))


def words_in(statements):
    """The words of the statements, each with how many terms it is of."""
    found = set()
    waiting = list(statements)
    while waiting:
        A = waiting.pop()
        if A[0] == "is":
            found.add((A[1], len(A[2])))
        waiting.extend(part for part in A[1:] if type(part) is tuple and A[0] != "is")
    return sorted(found)


def pigeons(many):
    """As many givens as tell that so many pigeons sit in one hole fewer, no two in one."""
    places = [[f"sits(a{k}, h{hole})" for hole in range(many - 1)] for k in range(many)]
    givens = []
    for row in places:
        told = row[0]
        for text in row[1:]:
            told = f"({told} or {text})"
        givens.append(told)
    for hole in range(many - 1):
        for first, second in itertools.combinations(places, 2):
            givens.append(f"not ({first[hole]} and {second[hole]})")
    return tuple(read(text) for text in givens)
