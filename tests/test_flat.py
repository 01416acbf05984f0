import unittest

from questions import QUESTIONS, questions_by_chance
from samples import FALSE, P, PX, chain, small_statements

from boxproof.flat import flat, to_open
from boxproof.texts import read


def quantifiers(A, told, around=()):
    """For each quantifier in A whether it is to be opened, and the same of those around it, by point 51 word for word."""
    if A[0] in ("all", "some"):
        opened = (A[0], told) in (("some", True), ("all", False))
        return [(opened, around)] + quantifiers(A[2], told, around + (opened,))
    if A[0] == "not":
        return quantifiers(A[1], not told, around)
    if A[0] == "then":
        return quantifiers(A[1], not told, around) + quantifiers(A[2], told, around)
    if A[0] in ("and", "or"):
        return quantifiers(A[1], told, around) + quantifiers(A[2], told, around)
    return []


def plainly(givens, goal):
    found = quantifiers(goal, False)
    for given in givens:
        found = found + quantifiers(given, True)
    is_flat = not any(opened and not all(around) for opened, around in found)
    return is_flat, sum(1 for opened, around in found if opened)


# A text; whether it is flat and how many are to be opened in it, as the one given; the same as the goal.
ONE = (
    ("p", True, 0, True, 0),
    ("f(a)", True, 0, True, 0),
    ("false", True, 0, True, 0),
    ("some X f(X)", True, 1, True, 0),
    ("all X f(X)", True, 0, True, 1),
    ("some X p", True, 1, True, 0),
    ("not some X f(X)", True, 0, True, 1),
    ("not all X f(X)", True, 1, True, 0),
    ("not not some X f(X)", True, 1, True, 0),
    ("not not not all X f(X)", True, 1, True, 0),
    ("(some X f(X) and all X f(X))", True, 1, True, 1),
    ("(some X f(X) and some X f(X))", True, 2, True, 0),
    ("(all X f(X) or all X f(X))", True, 0, True, 2),
    ("(some X f(X) then some X f(X))", True, 1, True, 1),
    ("(some X f(X) then p)", True, 0, True, 1),
    ("(p then some X f(X))", True, 1, True, 0),
    ("(all X f(X) then p)", True, 1, True, 0),
    ("(p then all X f(X))", True, 0, True, 1),
    ("((some X f(X) then p) then p)", True, 1, True, 0),
    ("not (some X f(X) then p)", True, 1, True, 0),
    ("all X some Y r(X, Y)", False, 1, True, 1),
    ("some X all Y r(X, Y)", True, 1, False, 1),
    ("some X some Y r(X, Y)", True, 2, True, 0),
    ("all X all Y r(X, Y)", True, 0, True, 2),
    ("all X not all Y r(X, Y)", False, 1, True, 1),
    ("all X not some Y r(X, Y)", True, 0, True, 2),
    ("all X (all Y r(X, Y) then p)", False, 1, True, 1),
    ("all X (some Y r(X, Y) then p)", True, 0, True, 2),
    ("all X (p then some Y r(X, Y))", False, 1, True, 1),
    ("all X all Y (p or (q and not not (p then some Z r(X, Y))))", False, 1, True, 2),
    ("some X some Y (p or (q and not not (p then all Z r(X, Y))))", True, 2, False, 1),
    ("some X all Y some Z b(X, Y, Z)", False, 2, False, 1),
    ("some X (some Y f(Y) and all Z f(Z))", True, 2, False, 1),
    ("(all X f(X) and some Y all X f(X))", True, 1, False, 2),
    ("(all X f(X) or all Y some X f(X))", False, 1, True, 2),
)


class Flat(unittest.TestCase):
    def test_one_statement_as_given_and_as_goal(self):
        for text, flat_given, given_count, flat_goal, goal_count in ONE:
            with self.subTest(text=text):
                A = read(text)
                self.assertIs(flat((A,), P), flat_given)
                self.assertEqual(to_open((A,), P), given_count)
                self.assertIs(flat((), A), flat_goal)
                self.assertEqual(to_open((), A), goal_count)
                self.assertIs(flat((("not", A),), P), flat_goal)
                self.assertEqual(to_open((("not", A),), P), goal_count)
                self.assertIs(flat((), ("not", A)), flat_given)
                self.assertEqual(to_open((), ("not", A)), given_count)

    def test_several(self):
        some, all_some, some_all = read("some X f(X)"), read("all X some Y r(X, Y)"), read("some X all Y r(X, Y)")
        self.assertEqual(to_open((some, some), P), 2)
        self.assertEqual(to_open((some, some, some_all), all_some), 4)
        self.assertTrue(flat((some, some_all), all_some))
        for givens in ((all_some,), (some, all_some), (all_some, some), (some, all_some, some)):
            self.assertFalse(flat(givens, P))
        self.assertFalse(flat((some,), some_all))
        self.assertTrue(flat((), P))
        self.assertEqual(to_open((), P), 0)

    def test_far_down(self):
        for deepest in range(3, 31):
            within = ("some", "X", PX)
            for k in range(deepest - 3):
                within = (("and", "or")[k % 2], within, P) if k % 3 else ("then", P, within)
            A = ("all", "Y", within)
            self.assertEqual(to_open((A,), FALSE), 1)
            self.assertFalse(flat((A,), FALSE))
            self.assertTrue(flat((), A))
            self.assertTrue(flat((("some", "Y", within),), FALSE))

    def test_deep_statements(self):
        for rule in ("all", "some"):
            A = chain(rule, 40)
            self.assertEqual(to_open((A,), P), 39 if rule == "some" else 0)
            self.assertEqual(to_open((), A), 39 if rule == "all" else 0)
            self.assertTrue(flat((A,), A))
        A = ("some", "X", PX)
        for k in range(36):
            A = ("not", A)
        self.assertEqual(to_open((A, ("not", A)), P), 1)

    def test_held_against_the_points(self):
        for A in small_statements(3):
            self.assertEqual((flat((A,), P), to_open((A,), P)), plainly((A,), P))
            self.assertEqual((flat((), A), to_open((), A)), plainly((), A))
        for givens, goal, most, end in QUESTIONS:
            self.assertEqual((flat(givens, goal), to_open(givens, goal)), plainly(givens, goal))
        for givens, goal, most in questions_by_chance(51, 2000):
            self.assertEqual((flat(givens, goal), to_open(givens, goal)), plainly(givens, goal))

    def test_kinds(self):
        self.assertIs(type(to_open((read("some X p"),), P)), int)
        self.assertIs(type(flat((), P)), bool)


if __name__ == "__main__":
    unittest.main()
