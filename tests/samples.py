"""Statements, worlds and lines that several tests ask about."""

import itertools

P = ("is", "p", ())
Q = ("is", "q", ())
PX = ("is", "p", ("X",))
PY = ("is", "p", ("Y",))
FALSE = ("false",)

# Each form: the statement, its text, how deep it is, its names, its free letters.
FORMS = (
    (P, "p", 1, (), ()),
    (("is", "man", ("tom",)), "man(tom)", 1, ("tom",), ()),
    (("is", "loves", ("tom", "Y2")), "loves(tom, Y2)", 1, ("tom",), ("Y2",)),
    (("is", "b3tween", ("Z", "a", "X")), "b3tween(Z, a, X)", 1, ("a",), ("X", "Z")),
    (FALSE, "false", 1, (), ()),
    (("not", P), "not p", 2, (), ()),
    (("not", ("not", PX)), "not not p(X)", 3, (), ("X",)),
    (("and", P, Q), "(p and q)", 2, (), ()),
    (("or", P, FALSE), "(p or false)", 2, (), ()),
    (("then", P, Q), "(p then q)", 2, (), ()),
    (("all", "X", PX), "all X p(X)", 2, (), ()),
    (("some", "X", PX), "some X p(X)", 2, (), ()),
    (("all", "X", PY), "all X p(Y)", 2, (), ("Y",)),
    (("all", "X", P), "all X p", 2, (), ()),
    (
        ("all", "X", ("then", ("is", "man", ("X",)), ("is", "mortal", ("X",)))),
        "all X (man(X) then mortal(X))",
        3,
        (),
        (),
    ),
    (
        ("and", P, ("not", ("is", "loves", ("tom", "Y2")))),
        "(p and not loves(tom, Y2))",
        3,
        ("tom",),
        ("Y2",),
    ),
    (
        ("or", ("and", ("not", P), Q), ("then", Q, ("not", ("not", P)))),
        "((not p and q) or (q then not not p))",
        5,
        (),
        (),
    ),
    (("and", PX, ("all", "X", PX)), "(p(X) and all X p(X))", 3, (), ("X",)),
    (("or", ("some", "X", PX), PX), "(some X p(X) or p(X))", 3, (), ("X",)),
    (("all", "X", ("some", "X", PX)), "all X some X p(X)", 3, (), ()),
    (("all", "X", ("and", PX, ("some", "Y", PY))), "all X (p(X) and some Y p(Y))", 4, (), ()),
    (("not", ("some", "Y", ("all", "X", PY))), "not some Y all X p(Y)", 4, (), ()),
    (("is", "is", ("is", "Not", "All")), "is(is, Not, All)", 1, ("is",), ("All", "Not")),
    (
        ("and", ("is", "b", ("b2", "b10")), ("is", "a", ("z", "b2", "a"))),
        "(b(b2, b10) and a(z, b2, a))",
        2,
        ("a", "b10", "b2", "z"),
        (),
    ),
)

STATEMENTS = tuple(form[0] for form in FORMS)


def small_statements(deepest):
    """All statements over a few words and terms, up to this deep."""
    if deepest == 0:
        return []
    smaller = small_statements(deepest - 1)
    made = [P, PX, ("is", "q", ("a", "Y")), FALSE]
    for part in smaller:
        made.append(("not", part))
        for rule in ("all", "some"):
            made.append((rule, "X", part))
            made.append((rule, "Y", part))
    for rule in ("and", "or", "then"):
        for first in smaller:
            for second in smaller:
                made.append((rule, first, second))
    return made


def chain(rule, length):
    """A statement that is this deep, by one rule alone; one with two parts goes down on both sides by turns."""
    made = P
    for k in range(length - 1):
        if rule == "not":
            made = ("not", made)
        elif rule in ("all", "some"):
            made = (rule, "X", made)
        elif k % 2 == 0:
            made = (rule, made, Q)
        else:
            made = (rule, Q, made)
    return made


CHAIN_RULES = ("not", "all", "some", "and", "or", "then")

# Texts that are no name and no word by point 11.
NO_WORDS = (
    "", "abcdefghi", "Tom", "tOm", "toM", "X", "not", "and", "or", "then", "all", "some", "false", "0", "0a", "a b",
    " a", "a ", "a\n", "a\t", "a_b", "a-b", "a.b", "a(", "a" * 1000,
)


def small_worlds(size, names, words):
    """All worlds of this size; words are pairs of a word and how many things it is of."""
    facts = []
    for word, length in words:
        facts.extend((word, things) for things in itertools.product(range(size), repeat=length))
    facts.sort()
    for things in itertools.product(range(size), repeat=len(names)):
        called = tuple(zip(names, things))
        for chosen in itertools.product((False, True), repeat=len(facts)):
            yield (size, called, tuple(fact for fact, there in zip(facts, chosen) if there))


def rows(*pairs):
    """Lines of these levels and rules, as a tuple; what else stands in them is no affair of their boxes."""
    return tuple((level, rule, None if rule == "new" else P, ()) for level, rule in pairs)
