"""Boxes, and whether a line follows, by points 32, 33 and 41 word for word, told apart from how the program does it."""

import re

from boxproof.statements import free_in, names_in, put

SEVEN = ("not", "and", "or", "then", "all", "some", "false")


def plain_boxes(lines):
    """The boxes by point 32 word for word, or None where the lines are no derivation's."""
    told = []
    for k, (level, rule, statement, refs) in enumerate(lines):
        ahead = told[-1] if told else []
        if level < 0 or (rule in ("guess", "new", "case") and level == 0):
            return None
        wanted = level - 1 if rule in ("guess", "new", "case") else level
        if len(ahead) < wanted:
            return None
        told.append([ahead[place] for place in range(wanted)] + ([k] if wanted == level - 1 else []))
    return tuple(tuple(one) for one in told)


class NoSuchThing(Exception):
    """A ref stands for nothing that the rule could take."""


def is_a_name(ref):
    return type(ref) is str and re.fullmatch("[a-z][a-z0-9]{0,7}", ref) is not None and ref not in SEVEN


class View:
    """What a line may take from the lines ahead."""

    def __init__(self, lines, paths, k):
        self.lines, self.paths, self.k = lines, paths, k

    def number(self, ref):
        if type(ref) is not int or ref not in range(self.k):
            raise NoSuchThing
        return ref

    def line(self, ref):
        i = self.number(ref)
        if self.paths[self.k][:len(self.paths[i])] != self.paths[i]:
            raise NoSuchThing
        return self.statement(i)

    def statement(self, i):
        if self.lines[i][1] == "new" or self.lines[i][2] is None:
            raise NoSuchThing
        return self.lines[i][2]

    def box(self, ref):
        b = self.number(ref)
        own = self.paths[self.k]
        if self.lines[b][1] not in ("guess", "new", "case") or b in own:
            raise NoSuchThing
        outer = self.paths[b][:-1]
        if own[:len(outer)] != outer:
            raise NoSuchThing
        end = [i for i in range(self.k) if self.paths[i] == self.paths[b]][-1]
        return self.lines[b], self.statement(end)

    def guess(self, ref):
        line, end = self.box(ref)
        if line[1] != "guess" or line[2] is None:
            raise NoSuchThing
        return line[2], end

    def named(self, ref, rule):
        line, end = self.box(ref)
        if line[1] != rule or len(line[3]) != 1:
            raise NoSuchThing
        return self.name(line[3][0]), line[2], end

    def name(self, ref):
        if not is_a_name(ref):
            raise NoSuchThing
        return ref

    def is_new(self, name):
        for level, rule, statement, refs in self.lines[:self.k]:
            if statement is not None and name in names_in(statement):
                return False
            if any(type(ref) is str and ref == name for ref in refs):
                return False
        return True


def plainly_follows(lines, paths, k):
    rule, S = lines[k][1:3]
    if (S is None) != (rule == "new") or (S is not None and free_in(S) != ()):
        return False
    try:
        return by_rule(View(lines, paths, k), lines[k])
    except NoSuchThing:
        return False


def by_rule(view, line):
    level, rule, S, refs = line
    counts = {"given": 0, "guess": 0, "both": 2, "cases": 3, "use": 2, "clash": 2, "each": 2, "some": 2, "one": 2}
    if len(refs) != counts.get(rule, 1):
        return False
    if rule == "given":
        return level == 0 and all(one[1] == "given" for one in view.lines[:view.k])
    if rule == "guess":
        return True
    if rule in ("new", "case"):
        return view.is_new(view.name(refs[0]))
    if rule in ("then", "deny", "absurd", "every", "cases", "one"):
        return by_boxes(view, rule, S, refs)
    return by_lines(view, rule, S, refs)


def by_boxes(view, rule, S, refs):
    if rule == "then":
        return S == ("then",) + view.guess(refs[0])
    if rule == "deny":
        guessed, end = view.guess(refs[0])
        return S == ("not", guessed) and end == ("false",)
    if rule == "absurd":
        return view.guess(refs[0]) == (("not", S), ("false",))
    if rule == "cases":
        either = view.line(refs[0])
        first, second = view.guess(refs[1]), view.guess(refs[2])
        return either == ("or", first[0], second[0]) and first[1] == S and second[1] == S
    if rule == "every":
        c, nothing, end = view.named(refs[0], "new")
        return S[0] == "all" and put(S[2], S[1], c) == end and c not in names_in(S)
    some = view.line(refs[0])
    c, case, end = view.named(refs[1], "case")
    if some[0] != "some" or put(some[2], some[1], c) != case:
        return False
    return end == S and c not in names_in(S) + names_in(some)


def by_lines(view, rule, S, refs):
    if rule not in ("again", "both", "left", "right", "either", "use", "clash", "any", "each", "some"):
        return False
    A = view.line(refs[0])
    if rule == "each":
        return A[0] == "all" and put(A[2], A[1], view.name(refs[1])) == S
    if rule == "some":
        return S[0] == "some" and put(S[2], S[1], view.name(refs[1])) == A
    B = view.line(refs[-1])
    return {
        "again": S == A,
        "both": S == ("and", A, B),
        "left": A[0] == "and" and A[1] == S,
        "right": A[0] == "and" and A[-1] == S,
        "either": S[0] == "or" and A in (S[1], S[2]),
        "use": A == ("then", B, S),
        "clash": S == ("false",) and B == ("not", A),
        "any": A == ("false",),
    }[rule]
