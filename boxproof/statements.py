"""Statements: what names, letters and words are, what stands in a statement, and names put for letters."""

SMALL = "abcdefghijklmnopqrstuvwxyz"
GREAT = "ABCDEFGHIJKLMNOPQRSTUVWXYZ"
SMALL_OR_FIGURE = "abcdefghijklmnopqrstuvwxyz0123456789"
KEPT_WORDS = ("not", "and", "or", "then", "all", "some", "false")
MOST_SIGNS = 8

PAIRS = ("and", "or", "then")
QUANTIFIERS = ("all", "some")


def begins_and_goes_on(text, first_signs):
    if text == "" or len(text) > MOST_SIGNS or text[0] not in first_signs:
        return False
    return all([sign in SMALL_OR_FIGURE for sign in text[1:]])


def is_name(text):
    return begins_and_goes_on(text, SMALL) and text not in KEPT_WORDS


def is_letter(text):
    return begins_and_goes_on(text, GREAT)


def is_word(text):
    return is_name(text)


def parts(A):
    if A[0] == "is":
        return ()
    if A[0] in QUANTIFIERS:
        return (A[2],)
    return A[1:]


def deep(A):
    deepest = 0
    for part in parts(A):
        deepest = max(deepest, deep(part))
    return deepest + 1


def terms_in(A):
    if A[0] == "is":
        return list(A[2])
    found = []
    for part in parts(A):
        found.extend(terms_in(part))
    return found


def names_in(A):
    return tuple(sorted(set([term for term in terms_in(A) if is_name(term)])))


def free_terms_in(A):
    if A[0] == "is":
        return list(A[2])
    found = []
    for part in parts(A):
        found.extend(free_terms_in(part))
    if A[0] in QUANTIFIERS:
        return [term for term in found if term != A[1]]
    return found


def free_in(A):
    return tuple(sorted(set([term for term in free_terms_in(A) if is_letter(term)])))


def put(A, letter, name):
    if A[0] == "is":
        return ("is", A[1], tuple([name if term == letter else term for term in A[2]]))
    if A[0] in QUANTIFIERS:
        # What stands within belongs to this quantifier, so none of its letters is free here.
        if A[1] == letter:
            return A
        return (A[0], A[1], put(A[2], letter, name))
    return (A[0],) + tuple([put(part, letter, name) for part in A[1:]])
