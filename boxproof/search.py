"""The search: a tree of steps that are done to the givens and to the denial of the goal."""

from boxproof.statements import QUANTIFIERS, names_in
from boxproof.trees import names_on, nodes_down_to, pieces, rule_for, with_name

FALSE = ("false",)

# The kinds of steps that wait on a branch: those of an earlier kind are done first. An or whose two sides (closing)
# or one side (single) can be shut by what stands there makes no branch that goes on, so it comes ahead of
# what else there is. The opens are of three kinds, by the rank of the node that added what is to be opened.
KINDS = ("and", "closing", "single", "open", "use", "late", "or", "last")
OPENING_KINDS = ("open", "late", "last")


def tree_for(givens, goal, most):
    start = givens + (("not", goal),)
    search = Search(start, most)
    while not search.ended:
        search.go_on()
    return tidy(search.nodes, search.needed, names_on(start))


# The statements that can't stand beside A on a branch that isn't shut.
def denials(A):
    if A[0] == "not":
        return (("not", A), A[1])
    return (("not", A),)


# All that can come of A by and and or alone, A among it.
def outcomes(A):
    found = [A]
    if rule_for(A) in ("and", "or"):
        for piece in pieces(A):
            found.extend(outcomes(piece))
    return found


def shorten(row, length):
    while len(row) > length:
        row.pop()


# What stands on the branch that is looked at, and the steps that wait there. All of it only grows down
# the branch, so that going back to a node above is to cut each row where it ended then.
class Branch:
    def __init__(self, most):
        self.most = most
        self.statements = []
        self.adders = {}
        self.names = []
        self.bringers = {}
        self.uses = []
        self.watched = []
        self.watchers = {}
        self.waiting = dict([(kind, []) for kind in KINDS])
        self.passed = dict([(kind, 0) for kind in KINDS])
        self.shut_by = None

    def add(self, A, node, rank):
        if A in self.adders:
            return
        self.statements.append(A)
        self.adders[A] = node
        if self.clashes(A):
            self.shut_by = A if A == FALSE or ("not", A) in self.adders else A[1]
        for name in names_in(A):
            self.add_name(name, node)
        for denial in denials(A):
            for watcher in self.watchers.get(denial, ()):
                self.hurry(watcher)
        self.add_steps(A, rank)

    def add_name(self, name, node):
        if name not in self.bringers:
            self.names.append(name)
            self.bringers[name] = node
            for A in self.uses:
                self.waiting["use"].append(("use", A, name))

    def add_steps(self, A, rank):
        rule = rule_for(A)
        if rule == "use":
            self.uses.append(A)
            for name in self.names:
                self.waiting["use"].append(("use", A, name))
        elif rule == "open":
            kind = OPENING_KINDS[min(rank, len(OPENING_KINDS) - 1)]
            self.waiting[kind].append(("open", A, None))
        elif rule is not None:
            self.waiting[rule].append((rule, A, None))
        if rule == "or":
            self.watch(A)
            self.hurry(A)

    def watch(self, A):
        for piece in pieces(A):
            for outcome in outcomes(piece):
                self.watched.append(outcome)
                self.watchers.setdefault(outcome, []).append(A)

    def hurry(self, A):
        step = ("or", A, None)
        if self.is_left(step):
            refuted = [piece for piece in pieces(A) if self.refutes(piece)]
            if len(refuted) > 0:
                self.waiting["single" if len(refuted) == 1 else "closing"].append(step)

    def clashes(self, A):
        return A == FALSE or any([denial in self.adders for denial in denials(A)])

    # Whether A would be shut by and and or alone.
    def refutes(self, A):
        if self.clashes(A):
            return True
        rule = rule_for(A)
        if rule == "and":
            return any([self.refutes(piece) for piece in pieces(A)])
        return rule == "or" and all([self.refutes(piece) for piece in pieces(A)])

    # A step is a rule, a statement, and the name of a use that puts one that stands there.
    def next_step(self):
        for kind in KINDS:
            step = self.first_left(kind)
            if step is not None:
                return step
        return None if len(self.names) > 0 else self.use_of_no_name()

    def first_left(self, kind):
        if kind in OPENING_KINDS and len(self.names) >= self.most:
            return None
        steps = self.waiting[kind]
        # Of a step of which nothing is left nothing will be, further down.
        while self.passed[kind] < len(steps):
            step = steps[self.passed[kind]]
            if self.is_left(step):
                return step
            self.passed[kind] += 1
        return None

    def use_of_no_name(self):
        for A in self.uses:
            # Where no name stands, what a use adds can stand there only if its letter isn't in it.
            if with_name(A, "c0") not in self.adders:
                return ("use", A, None)
        return None

    def is_left(self, step):
        rule = step[0]
        A = step[1]
        if rule == "use":
            return with_name(A, step[2]) not in self.adders
        if rule == "open":
            names = self.names if len(self.names) > 0 else ["c0"]
            return not any([with_name(A, name) in self.adders for name in names])
        there = [piece in self.adders for piece in pieces(A)]
        return not all(there) if rule == "and" else not any(there)

    def is_open_left(self):
        for kind in OPENING_KINDS:
            if any([self.is_left(step) for step in self.waiting[kind]]):
                return True
        return False

    def mark(self):
        lengths = (len(self.statements), len(self.names), len(self.uses), len(self.watched))
        return (lengths, [len(self.waiting[kind]) for kind in KINDS], [self.passed[kind] for kind in KINDS])

    def go_back(self, mark):
        lengths = mark[0]
        while len(self.statements) > lengths[0]:
            self.adders.pop(self.statements.pop())
        while len(self.names) > lengths[1]:
            self.bringers.pop(self.names.pop())
        shorten(self.uses, lengths[2])
        while len(self.watched) > lengths[3]:
            self.watchers[self.watched.pop()].pop()
        for kind, length, passed in zip(KINDS, mark[1], mark[2]):
            shorten(self.waiting[kind], length)
            self.passed[kind] = passed
        self.shut_by = None


# The names c0, c1, c2 .. in this order, but for those that are taken.
class NewNames:
    def __init__(self, taken):
        self.taken = taken
        self.number = 0

    def next_name(self):
        number = self.number
        while f"c{number}" in self.taken:
            number += 1
        self.number = number + 1
        return f"c{number}"


# The tree as far as it is searched. The reasons of a node are the nodes that its step can't be without; a node
# is needed where a leaf can't be without it. Where an or turns out not to be needed, since its first side
# (or its second) is shut without it, the branch above it is shut, and the other side isn't gone through.
# The rank of a node is how many uses, each of a name that came of the one ahead, led to it: a new name is one
# more to use, so that opens could lead from one to the next without end.
class Search:
    def __init__(self, start, most):
        self.nodes = []
        self.reasons = []
        self.ranks = []
        self.needed = []
        self.branch = Branch(most)
        self.new_names = NewNames(names_on(start))
        self.turns = []
        self.ended = False
        self.add_node((-1, "start", None, None, start), (), 0)

    def add_node(self, node, reasons, rank):
        self.nodes.append(node)
        self.reasons.append(reasons)
        self.ranks.append(rank)
        self.needed.append(False)
        for A in node[4]:
            self.branch.add(A, self.last(), rank)

    def go_on(self):
        if self.branch.shut_by is not None:
            self.shut(self.branch.shut_by)
            return
        step = self.branch.next_step()
        if step is None:
            self.end()
        else:
            self.do(step[0], step[1], step[2])

    def last(self):
        return len(self.nodes) - 1

    def do(self, rule, of, name):
        adder = self.branch.adders[of]
        rank = self.ranks[adder]
        if rule == "and":
            self.add_node((self.last(), rule, of, None, pieces(of)), (adder,), rank)
        elif rule == "or":
            self.turns.append((len(self.nodes), None, self.branch.mark()))
            self.add_node((self.last(), rule, of, None, pieces(of)[:1]), (adder,), rank)
        elif rule == "open":
            self.put_name(rule, of, self.new_names.next_name(), (adder,), rank)
        elif name is None:
            # A new name may be used only where all else is done, so this can't be without any node above.
            above = nodes_down_to(self.nodes, self.last())
            self.put_name(rule, of, self.new_names.next_name(), above, rank + 1)
        else:
            bringer = self.branch.bringers[name]
            self.put_name(rule, of, name, (adder, bringer), max(rank, self.ranks[bringer] + 1))

    def put_name(self, rule, of, name, reasons, rank):
        self.add_node((self.last(), rule, of, name, (with_name(of, name),)), reasons, rank)

    def shut(self, of):
        adders = self.branch.adders
        reasons = (adders[of],) if of == FALSE else (adders[of], adders[("not", of)])
        self.end_branch("shut", of, reasons)
        self.turn_back()

    def end(self):
        rule = "far" if self.branch.is_open_left() else "done"
        self.end_branch(rule, None, nodes_down_to(self.nodes, self.last()))
        self.ended = True

    def end_branch(self, rule, of, reasons):
        self.add_node((self.last(), rule, of, None, ()), reasons, 0)
        self.need(self.last())

    def need(self, node):
        wanted = [node]
        while len(wanted) > 0:
            found = wanted.pop()
            if not self.needed[found]:
                self.needed[found] = True
                wanted.extend(self.reasons[found])

    # A turn is the first node of an or, the second where there is one already, and the mark of the branch above.
    def turn_back(self):
        while len(self.turns) > 0:
            turn = self.turns.pop()
            first = turn[0]
            second = turn[1]
            if second is None and self.needed[first]:
                self.turn_to_second(first, turn[2])
                return
            if second is not None and not self.needed[second]:
                self.leave_out(first, second)
        self.ended = True

    def turn_to_second(self, first, mark):
        self.branch.go_back(mark)
        self.turns.append((first, len(self.nodes), mark))
        of = self.nodes[first][2]
        self.add_node((self.nodes[first][0], "or", of, None, pieces(of)[1:]), self.reasons[first], self.ranks[first])

    def leave_out(self, first, second):
        for node in range(first, second):
            self.needed[node] = False


# The tree of the needed nodes alone, with the new names told anew, so that none is passed over.
def tidy(nodes, needed, old_names):
    names = changed_names([node[3] for k, node in enumerate(nodes) if needed[k]], old_names)
    places = {-1: -1}
    tree = []
    for k, node in enumerate(nodes):
        above = places[node[0]]
        if needed[k]:
            places[k] = len(tree)
            tree.append(renamed_node(node, above, names))
        else:
            places[k] = above
    return tuple(tree)


def changed_names(told, old_names):
    known = dict([(name, True) for name in old_names])
    new_names = NewNames(old_names)
    changed = {}
    for name in told:
        if name is not None and name not in known:
            known[name] = True
            new_name = new_names.next_name()
            if new_name != name:
                changed[name] = new_name
    return changed


def renamed_node(node, above, names):
    if len(names) == 0 or node[2] is None:
        return (above,) + node[1:]
    added = tuple([renamed(A, names) for A in node[4]])
    return (above, node[1], renamed(node[2], names), names.get(node[3], node[3]), added)


def renamed(A, names):
    if A[0] == "is":
        return ("is", A[1], tuple([names.get(term, term) for term in A[2]]))
    if A[0] in QUANTIFIERS:
        return (A[0], A[1], renamed(A[2], names))
    return (A[0],) + tuple([renamed(part, names) for part in A[1:]])
