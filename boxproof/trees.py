"""Trees: which step may be done to a statement, what it adds, the branch of a node, and a branch's world."""

from boxproof.statements import names_in, put

# The rule of the step that may be done to a statement of this form, and to its denial.
TOLD_RULES = {"and": "and", "or": "or", "then": "or", "all": "use", "some": "open"}
DENIED_RULES = {"not": "and", "or": "and", "then": "and", "and": "or", "some": "use", "all": "open"}


# None, where no step may be done to it.
def rule_for(A):
    if A[0] == "not":
        return DENIED_RULES.get(A[1][0])
    return TOLD_RULES.get(A[0])


# What an and adds, in order, or what the two nodes of an or add, the first's first.
def pieces(A):
    if A[0] == "then":
        return (("not", A[1]), A[2])
    if A[0] != "not":
        return (A[1], A[2])
    B = A[1]
    if B[0] == "not":
        return (B[1],)
    if B[0] == "then":
        return (B[1], ("not", B[2]))
    return (("not", B[1]), ("not", B[2]))


# What a use or an open of this statement adds with this name.
def with_name(A, name):
    if A[0] == "not":
        return ("not", put(A[1][2], A[1][1], name))
    return put(A[2], A[1], name)


def nodes_down_to(tree, k):
    found = []
    at = k
    while at >= 0:
        found.append(at)
        at = tree[at][0]
    return tuple(reversed(found))


def branch(tree, k):
    statements = []
    for node in nodes_down_to(tree, k):
        statements.extend(tree[node][4])
    return tuple(statements)


def names_on(statements):
    names = []
    for A in statements:
        names.extend(names_in(A))
    return tuple(sorted(set(names)))


def branch_world(statements):
    called = tuple([(name, thing) for thing, name in enumerate(names_on(statements))])
    things = dict(called)
    facts = [fact_of(A, things) for A in statements if A[0] == "is"]
    return (max(1, len(called)), called, tuple(sorted(set(facts))))


def fact_of(A, things):
    return (A[1], tuple([things[name] for name in A[2]]))
