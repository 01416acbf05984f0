"""Statements written as texts, and texts read as statements."""

from boxproof.errors import NoStatement
from boxproof.rows import runs_in
from boxproof.statements import PAIRS, QUANTIFIERS, is_letter, is_name, is_word

RUN_SIGNS = "abcdefghijklmnopqrstuvwxyzABCDEFGHIJKLMNOPQRSTUVWXYZ0123456789"
SINGLE_SIGNS = "(),"
# No run is empty, so this one behind the last can be mistaken for none of them.
END = ""
MOST_TERMS = 3
MOST_DEEP = 40


def written(A):
    if A[0] == "is":
        return written_is(A)
    if A[0] == "false":
        return "false"
    if A[0] == "not":
        return "not " + written(A[1])
    if A[0] in QUANTIFIERS:
        return A[0] + " " + A[1] + " " + written(A[2])
    return "(" + written(A[1]) + " " + A[0] + " " + written(A[2]) + ")"


def written_is(A):
    if len(A[2]) == 0:
        return A[1]
    return A[1] + "(" + ", ".join(A[2]) + ")"


def runs_of(text):
    for sign in text:
        if sign != " " and sign not in SINGLE_SIGNS and sign not in RUN_SIGNS:
            raise NoStatement(f"a sign that stands in no statement: {sign!r}")
    spaced = text
    for sign in SINGLE_SIGNS:
        spaced = spaced.replace(sign, " " + sign + " ")
    return runs_in(spaced)


class Runs:
    def __init__(self, runs):
        self.runs = runs + [END]
        self.place = 0

    def ahead(self):
        return self.runs[self.place]

    def take(self):
        run = self.runs[self.place]
        self.place += 1
        return run

    def want(self, wanted):
        run = self.take()
        if run != wanted:
            raise NoStatement(f"{wanted!r} was wanted, not {run!r}")


def read(text):
    runs = Runs(runs_of(text))
    found = take_statement(runs, MOST_DEEP)
    runs.want(END)
    return found


# The room is how deep the statement may be. It is asked ahead of all else, so that
# a text of whatever depth is refused before the calls here go any deeper than that.
def take_statement(runs, room):
    if room == 0:
        raise NoStatement(f"more than {MOST_DEEP} deep")
    run = runs.take()
    if run == "false":
        return ("false",)
    if run == "not":
        return ("not", take_statement(runs, room - 1))
    if run in QUANTIFIERS:
        letter = take_letter(runs)
        return (run, letter, take_statement(runs, room - 1))
    if run == "(":
        return take_pair(runs, room - 1)
    if is_word(run):
        return ("is", run, take_terms(runs))
    raise NoStatement(f"no statement begins with {run!r}")


def take_letter(runs):
    run = runs.take()
    if not is_letter(run):
        raise NoStatement(f"no letter: {run!r}")
    return run


def take_pair(runs, room):
    first = take_statement(runs, room)
    joint = runs.take()
    if joint not in PAIRS:
        raise NoStatement(f"and, or or then was wanted, not {joint!r}")
    second = take_statement(runs, room)
    runs.want(")")
    return (joint, first, second)


def take_terms(runs):
    if runs.ahead() != "(":
        return ()
    runs.want("(")
    terms = [take_term(runs)]
    while runs.ahead() == ",":
        runs.want(",")
        terms.append(take_term(runs))
    runs.want(")")
    if len(terms) > MOST_TERMS:
        raise NoStatement(f"more than {MOST_TERMS} terms")
    return tuple(terms)


def take_term(runs):
    run = runs.take()
    if not is_name(run) and not is_letter(run):
        raise NoStatement(f"no term: {run!r}")
    return run
