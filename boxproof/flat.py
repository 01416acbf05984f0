"""Which quantifiers of givens and a goal are to be opened, and whether these are flat."""

from boxproof.statements import QUANTIFIERS, parts


def flat(givens, goal):
    return is_flat(goal, False, False) and all([is_flat(A, True, False) for A in givens])


def to_open(givens, goal):
    return count_to_open(goal, False) + sum([count_to_open(A, True) for A in givens])


def is_flat(A, told, within_used):
    if within_used and is_to_open(A, told):
        return False
    within = within_used or is_to_use(A, told)
    return all([is_flat(part, side, within) for part, side in parts_and_sides(A, told)])


def count_to_open(A, told):
    own = 1 if is_to_open(A, told) else 0
    return own + sum([count_to_open(part, side) for part, side in parts_and_sides(A, told)])


def is_to_open(A, told):
    return A[0] == ("some" if told else "all")


def is_to_use(A, told):
    return A[0] in QUANTIFIERS and not is_to_open(A, told)


def parts_and_sides(A, told):
    if A[0] == "not":
        return [(A[1], not told)]
    if A[0] == "then":
        return [(A[1], not told), (A[2], told)]
    return [(part, told) for part in parts(A)]
