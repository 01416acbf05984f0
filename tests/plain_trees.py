"""Trees by points 53 to 56 word for word, told apart from how the program makes them."""

from boxproof.statements import names_in, put


def no(A):
    return ("not", A)


def by_and(A):
    """What and would add to the branch, or None where it can't be done to A."""
    if A[0] == "and":
        return (A[1], A[2])
    if A[0] == "not" and A[1][0] == "or":
        return (no(A[1][1]), no(A[1][2]))
    if A[0] == "not" and A[1][0] == "then":
        return (A[1][1], no(A[1][2]))
    if A[0] == "not" and A[1][0] == "not":
        return (A[1][1],)
    return None


def by_or(A):
    """What the two nodes of an or would add, or None."""
    if A[0] == "or":
        return (A[1], A[2])
    if A[0] == "not" and A[1][0] == "and":
        return (no(A[1][1]), no(A[1][2]))
    if A[0] == "then":
        return (no(A[1]), A[2])
    return None


def by_use(A, name):
    if A[0] == "all":
        return put(A[2], A[1], name)
    if A[0] == "not" and A[1][0] == "some":
        return no(put(A[1][2], A[1][1], name))
    return None


def by_open(A, name):
    if A[0] == "some":
        return put(A[2], A[1], name)
    if A[0] == "not" and A[1][0] == "all":
        return no(put(A[1][2], A[1][1], name))
    return None


def names_of(statements):
    return sorted({name for A in statements for name in names_in(A)})


def steps_left(there):
    """The pairs of a rule and a statement of which something is left by point 55, there being a set of statements."""
    names = names_of(there)
    left = set()
    for A in there:
        if by_and(A) is not None and not all(part in there for part in by_and(A)):
            left.add(("and", A))
        if by_or(A) is not None and not any(part in there for part in by_or(A)):
            left.add(("or", A))
        if by_open(A, "z") is not None and not any(by_open(A, name) in there for name in names + ["z"]):
            left.add(("open", A))
        if by_use(A, "z") is not None and not all(by_use(A, name) in there for name in names or ["z"]):
            left.add(("use", A))
    return left


def can_be_shut(there):
    return ("false",) in there or any(no(A) in there for A in there)


def wrong_in(tree, givens, goal, most):
    """What is wrong with the tree by points 53 to 56, or None."""
    told = []
    for k, node in enumerate(tree):
        fault = wrong_node(tree, k, told, givens, goal, most)
        if fault is not None:
            return f"node {k} {node}: {fault}"
        above, rule, of, name, added = node
        told.append((told[above] if k else frozenset()) | set(added))
    return wrong_shape(tree)


def wrong_node(tree, k, told, givens, goal, most):
    node = tree[k]
    if type(node) is not tuple or len(node) != 5 or type(node[4]) is not tuple or type(node[0]) is not int:
        return "no node"
    above, rule, of, name, added = node
    if k == 0:
        return None if node == (-1, "start", None, None, givens + (no(goal),)) else "no start"
    if above not in range(k):
        return "above"
    there = told[above]
    if rule in ("done", "far"):
        return wrong_end(tree, k, there, most)
    if of not in there:
        return "of isn't there"
    if rule == "shut":
        fits = of == ("false",) or no(of) in there
        return None if fits and (name, added) == (None, ()) else "not to be shut"
    if rule in ("and", "or"):
        if name is not None or (rule, of) not in steps_left(there):
            return "nothing left"
        wanted = [by_and(of)] if rule == "and" else [(part,) for part in by_or(of)]
        return None if added in wanted else "added"
    if rule in ("use", "open"):
        return wrong_name(tree, k, there, most)
    return "no rule"


def wrong_end(tree, k, there, most):
    above, rule, of, name, added = tree[k]
    left = {step for step, A in steps_left(there)}
    if k != len(tree) - 1 or (of, name, added) != (None, None, ()) or can_be_shut(there):
        return "no such end"
    if rule == "done":
        return None if not left else "something is left"
    return None if left == {"open"} and len(names_of(there)) >= most else "not far"


def wrong_name(tree, k, there, most):
    above, rule, of, name, added = tree[k]
    made = (by_use if rule == "use" else by_open)(of, name)
    if made is None or added != (made,) or made in there:
        return "added"
    left = steps_left(there)
    if (rule, of) not in left:
        return "nothing left"
    names = names_of(there)
    if rule == "use" and names:
        return None if name in names else "another name"
    if rule == "use" and {step for step, A in left} != {"use"}:
        return "something else is left"
    if rule == "open" and len(names) >= most:
        return "too many names"
    return None if name == first_new(tree[:k]) else "not the first that is new"


def first_new(nodes):
    stand = {name for node in nodes for name in names_of(node[4])} | {node[3] for node in nodes}
    stand |= {name for node in nodes if node[2] is not None for name in names_in(node[2])}
    number = 0
    while f"c{number}" in stand:
        number += 1
    return f"c{number}"


def wrong_shape(tree):
    """What is wrong with which nodes stand beneath which, by points 53 and 54."""
    beneath = {k: [] for k in range(len(tree))}
    for k, node in enumerate(tree[1:], start=1):
        beneath[node[0]].append(k)
    ends_open = tree[-1][1] in ("done", "far")
    last = branch_of(tree, len(tree) - 1)
    for k, under in beneath.items():
        rules = [tree[one][1] for one in under]
        if tree[k][1] in ("shut", "done", "far"):
            fits = under == []
        elif rules == ["or", "or"]:
            fits = wrong_two(tree, under) is None
        elif rules == ["or"]:
            fits = ends_open and under[0] in last and tree[under[0]][4] == by_or(tree[under[0]][2])[:1]
        else:
            fits = len(under) == 1
        if not fits:
            return f"beneath node {k}: {under}"
    return None


def wrong_two(tree, under):
    first, second = under
    if tree[first][2] != tree[second][2] or tree[first][4] + tree[second][4] != by_or(tree[first][2]):
        return "not the two of an or"
    for k in range(len(tree)):
        if first in branch_of(tree, k) and k >= second:
            return "the first's come ahead of the second"
    return None


def branch_of(tree, k):
    found = []
    while k != -1:
        found.append(k)
        k = tree[k][0]
    return found
