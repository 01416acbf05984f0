"""Whether a line of a derivation follows by its rule."""

from boxproof.boxes import box_seen, end_of, seen
from boxproof.lines import opens
from boxproof.statements import free_in, is_name, names_in, put

FALSE = ("false",)


# Each of these tells whether S follows from what its refs stand for, in order: of a line its
# statement, of a box a pair of the line that opens it and its end's statement, of a name itself.
def by_again(S, taken):
    return S == taken[0]


def by_both(S, taken):
    return S == ("and", taken[0], taken[1])


def by_left(S, taken):
    return taken[0][0] == "and" and S == taken[0][1]


def by_right(S, taken):
    return taken[0][0] == "and" and S == taken[0][2]


def by_either(S, taken):
    return S[0] == "or" and taken[0] in S[1:]


def by_cases(S, taken):
    A = taken[0]
    return A[0] == "or" and leads(taken[1], A[1], S) and leads(taken[2], A[2], S)


def by_then(S, taken):
    return S[0] == "then" and leads(taken[0], S[1], S[2])


def by_use(S, taken):
    return taken[0] == ("then", taken[1], S)


def by_deny(S, taken):
    return S[0] == "not" and leads(taken[0], S[1], FALSE)


def by_clash(S, taken):
    return S == FALSE and taken[1] == ("not", taken[0])


def by_absurd(S, taken):
    return leads(taken[0], ("not", S), FALSE)


def by_any(S, taken):
    return taken[0] == FALSE


def by_each(S, taken):
    A = taken[0]
    return A[0] == "all" and S == put(A[2], A[1], taken[1])


def by_every(S, taken):
    box = taken[0]
    name = opened_with(box, "new")
    if S[0] != "all" or name is None or name in names_in(S):
        return False
    return box[1] == put(S[2], S[1], name)


def by_some(S, taken):
    return S[0] == "some" and taken[0] == put(S[2], S[1], taken[1])


def by_one(S, taken):
    A = taken[0]
    box = taken[1]
    name = opened_with(box, "case")
    if A[0] != "some" or name is None or name in names_in(S) or name in names_in(A):
        return False
    return box[0][2] == put(A[2], A[1], name) and box[1] == S


def leads(box, guessed, ending):
    return box[0][1] == "guess" and box[0][2] == guessed and box[1] == ending


def opened_with(box, rule):
    return only_name(box[0]) if box[0][1] == rule else None


def only_name(line):
    if len(line[3]) != 1:
        return None
    return name_for(line[3][0])


def name_for(ref):
    return ref if isinstance(ref, str) and is_name(ref) else None


# What each rule wants in the places of its refs, and how it is told whether a line follows by it.
RULES = {
    "again": (("line",), by_again),
    "both": (("line", "line"), by_both),
    "left": (("line",), by_left),
    "right": (("line",), by_right),
    "either": (("line",), by_either),
    "cases": (("line", "box", "box"), by_cases),
    "then": (("box",), by_then),
    "use": (("line", "line"), by_use),
    "deny": (("box",), by_deny),
    "clash": (("line", "line"), by_clash),
    "absurd": (("box",), by_absurd),
    "any": (("line",), by_any),
    "each": (("line", "name"), by_each),
    "every": (("box",), by_every),
    "some": (("line", "name"), by_some),
    "one": (("line", "box"), by_one),
}


# What stands ahead of a line is counted once, for whoever asks of many lines in turn.
class Ahead:
    def __init__(self, lines):
        self.lines = lines
        self.givens = 0
        self.named = 0
        self.first_places = {}

    def only_givens(self, k):
        while self.givens < k and self.lines[self.givens][1] == "given":
            self.givens += 1
        return self.givens >= k

    def has_name(self, name, k):
        while self.named < k:
            for found in names_of(self.lines[self.named]):
                self.first_places.setdefault(found, self.named)
            self.named += 1
        return self.first_places.get(name, k) < k


def names_of(line):
    names = [ref for ref in line[3] if isinstance(ref, str)]
    if line[2] is not None:
        names.extend(names_in(line[2]))
    return names


def follows(lines, paths, k):
    return follows_behind(Ahead(lines), lines, paths, k)


def follows_behind(ahead, lines, paths, k):
    line = lines[k]
    rule = line[1]
    if not fits_its_rule(line[2], rule):
        return False
    if rule == "given":
        return len(line[3]) == 0 and line[0] == 0 and ahead.only_givens(k)
    if rule == "guess":
        return len(line[3]) == 0
    if rule == "new" or rule == "case":
        name = only_name(line)
        return name is not None and not ahead.has_name(name, k)
    return rule in RULES and follows_by(RULES[rule], lines, paths, k)


def fits_its_rule(statement, rule):
    if rule == "new" or statement is None:
        return rule == "new" and statement is None
    return len(free_in(statement)) == 0


def follows_by(wants_and_step, lines, paths, k):
    wants = wants_and_step[0]
    step = wants_and_step[1]
    refs = lines[k][3]
    if len(refs) != len(wants):
        return False
    taken = [stands_for(want, ref, lines, paths, k) for want, ref in zip(wants, refs)]
    return None not in taken and step(lines[k][2], taken)


# None is what a ref stands for that is none of the kind wanted, or of a line or box that isn't seen.
def stands_for(want, ref, lines, paths, k):
    if want == "name":
        return name_for(ref)
    if not is_number_ahead(ref, k):
        return None
    if want == "line":
        return statement_of(lines[ref]) if seen(paths, k, ref) else None
    return seen_box(ref, lines, paths, k)


def is_number_ahead(ref, k):
    return isinstance(ref, int) and not isinstance(ref, bool) and 0 <= ref and ref < k


def seen_box(b, lines, paths, k):
    if not opens(lines[b][1]) or not box_seen(paths, k, b):
        return None
    return (lines[b], statement_of(lines[end_of(paths, b)]))


def statement_of(line):
    return None if line[1] == "new" else line[2]
