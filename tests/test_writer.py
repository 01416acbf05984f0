import unittest

from plain_steps import plain_boxes, plainly_follows
from questions import QUESTIONS, RIDDLE, RIDDLE_GOAL, pigeons, questions_by_chance
from refusals import refused_with
from samples import CHAIN_RULES, FALSE, P, Q, chain

from boxproof.checker import lets_by, wrong_at
from boxproof.errors import NotShut
from boxproof.lines import boxes
from boxproof.linetexts import lines_text, read_lines
from boxproof.search import tree_for
from boxproof.statements import names_in
from boxproof.texts import read
from boxproof.writer import lines_of

ELSE = ("is", "nowhere", ())

# A rule of a tree, the form of the statement that it is done to, and questions in whose trees that is done.
EACH_STEP = (
    ("and", "and", ((("(p and q)",), "p"), (("(p and q)",), "q"), (("p", "(p and q)", "not q"), "r"))),
    ("and", "not or", ((("not (p or q)", "p"), "r"), (("not (p or q)", "q"), "r"), (("not (p or p)", "p"), "r"))),
    ("and", "not then", ((("not (p then q)", "not p"), "r"), (("not (p then q)", "q"), "r"), (("q",), "(p then q)"))),
    ("and", "not not", ((("not not (p and q)",), "p"), (("not not not not (p and q)",), "q"))),
    ("or", "or", ((("(p or q)", "not p", "not q"), "r"), (("(p or q)",), "(q or p)"), (("(p or p)",), "p"))),
    ("or", "not and", ((("not (p and q)", "p", "q"), "r"), (("q", "p"), "(p and q)"), (("p",), "(p and p)"))),
    ("or", "then", ((("(p then q)", "p", "not q"), "r"), (("(p then false)", "p"), "r"), (("(p then q)",), "(not q then not p)"))),
    ("use", "all", ((("all X f(X)",), "f(a)"), (("all X all Y r(X, Y)",), "r(b, a)"), (("all X f(X)", "all X not f(X)"), "r"))),
    ("use", "not some", ((("not some X f(X)", "f(a)"), "r"), (("f(a)",), "some X f(X)"), (("r(a, b)",), "some X r(a, X)"))),
    ("open", "some", ((("some X f(X)", "all X not f(X)"), "r"), (("some X f(X)",), "some Y f(Y)"), (("some X p",), "p"))),
    ("open", "not all", ((("all X (f(X) and g(X))",), "all X f(X)"), (("not all X f(X)",), "some X not f(X)"), (("p",), "all X p"))),
    ("shut", "false", ((("false",), "p"), (("(p and false)",), "q"), (("all X (false or false)",), "q"))),
    ("shut", "is", ((("p",), "p"), (("f(a)", "not f(a)"), "q"))),
    ("shut", "not is", ((("not not p",), "p"), (("not p",), "not p"))),
    ("shut", "or", ((("(p or q)",), "(p or q)"),)),
    ("shut", "all", ((("all X f(X)",), "all X f(X)"),)),
    ("shut", "not false", ((("not not false",), "false"),)),
)

# For each form of an or a question in whose tree the first side is the greater, and one in whose tree the second is.
GREATER_SIDES = (
    ("or", (("((p and r) or q)", "not r", "not q"), "s"), (("(q or (p and r))", "not r", "not q"), "s")),
    ("not and", (("not ((not p or r) and q)", "not p", "q"), "s"), (("not (q and (not p or r))", "not p", "q"), "s")),
    ("then", (("((not p or r) then q)", "not p", "not q"), "s"), (("(q then (p and r))", "not r", "q"), "s")),
)


def form_of(A):
    return A[0] + " " + A[1][0] if A[0] == "not" else A[0]


def size_of(tree, k):
    return 1 + sum(size_of(tree, under) for under in range(k + 1, len(tree)) if tree[under][0] == k)


def names_of_lines(lines):
    names = {ref for line in lines for ref in line[3] if type(ref) is str}
    return names | {name for line in lines if line[2] is not None for name in names_in(line[2])}


def names_of_tree(tree):
    names = {node[3] for node in tree if node[3] is not None}
    names |= {name for node in tree if node[2] is not None for name in names_in(node[2])}
    return names | {name for node in tree for A in node[4] for name in names_in(A)}


def told(texts, goal):
    return tuple(read(text) for text in texts), read(goal)


class Written(unittest.TestCase):
    def expect(self, givens, goal, most=8):
        """The tree is shut, and its lines are all that point 61 asks; the tree and the lines."""
        with self.subTest(givens=givens, goal=goal):
            tree = tree_for(givens, goal, most)
            lines = lines_of(givens, goal, tree)
            self.assertIs(type(lines), tuple)
            self.assertIsNone(wrong_at(lines))
            self.assertTrue(lets_by(givens, goal, lines))
            self.check_givens(givens, lines)
            self.assertEqual(lines[-1][0::2], (0, goal))
            self.assertLessEqual(names_of_lines(lines), names_of_tree(tree))
            self.assertLessEqual(len(lines), len(givens) + 20 * len(tree))
            self.check_kinds(lines)
            return tree, lines

    def check_givens(self, givens, lines):
        self.assertEqual(lines[:len(givens)], tuple((0, "given", A, ()) for A in givens))
        self.assertNotIn("given", [line[1] for line in lines[len(givens):]])

    def check_kinds(self, lines):
        for line in lines:
            self.assertIs(type(line), tuple)
            self.assertEqual([type(part) for part in line[:2] + line[3:]], [int, str, tuple])
            self.assertEqual(line[2] is None, line[1] == "new")


class Questions(Written):
    def test_told_ones(self):
        many = 0
        for givens, goal, most, end in QUESTIONS:
            if end == "shut":
                many += 1
                self.expect(givens, goal, most)
        self.assertGreater(many, 30)

    def test_by_chance(self):
        many = 0
        for givens, goal, most in questions_by_chance(61, 3000):
            if tree_for(givens, goal, most)[-1][1] == "shut":
                many += 1
                tree, lines = self.expect(givens, goal, most)
                self.assertEqual(read_lines(lines_text(lines)), lines)
        self.assertGreater(many, 500)

    def test_by_the_tests_own_telling(self):
        """Each line follows by point 41 word for word, too."""
        for givens, goal, most in questions_by_chance(62, 500):
            if tree_for(givens, goal, most)[-1][1] == "shut":
                lines = lines_of(givens, goal, tree_for(givens, goal, most))
                paths = plain_boxes(lines)
                for k in range(len(lines)):
                    self.assertTrue(plainly_follows(lines, paths, k))

    def test_not_for_another_goal_or_without_a_given(self):
        for givens, goal, most in questions_by_chance(63, 1000):
            if tree_for(givens, goal, most)[-1][1] == "shut":
                lines = lines_of(givens, goal, tree_for(givens, goal, most))
                self.assertFalse(lets_by(givens, ELSE, lines))
                self.assertFalse(lets_by(givens, ("not", goal), lines))
                for given in givens:
                    self.assertFalse(lets_by(tuple(A for A in givens if A != given), goal, lines))
                self.assertTrue(lets_by((ELSE,) + givens, goal, lines))


class Steps(Written):
    def test_each_step_in_each_form(self):
        for rule, form, questions in EACH_STEP:
            for texts, goal in questions:
                tree, lines = self.expect(*told(texts, goal))
                self.assertIn((rule, form), [(node[1], form_of(node[2])) for node in tree[1:]], (texts, goal))

    def test_the_greater_side(self):
        for form, first, second in GREATER_SIDES:
            for place, question in enumerate((first, second)):
                tree, lines = self.expect(*told(*question))
                two = [k for k, node in enumerate(tree) if node[1] == "or" and form_of(node[2]) == form]
                sizes = [size_of(tree, k) for k in two if tree[k][0] == tree[two[0]][0]]
                self.assertEqual(len(sizes), 2)
                self.assertGreater(sizes[place], sizes[1 - place])

    def test_no_givens(self):
        for text in ("(p or not p)", "(p then p)", "not false", "not (p and not p)", "all X (f(X) then f(X))", "(f(a) then some X f(X))"):
            tree, lines = self.expect((), read(text))
            self.assertNotIn("given", [line[1] for line in lines])

    def test_a_goal_that_is_a_given(self):
        for text in ("p", "false", "not p", "(p or q)", "all X some Y r(X, Y)", "some X f(X)"):
            self.expect((read(text),), read(text))
            self.expect((read("r"), read(text), read(text)), read(text))

    def test_givens_that_clash(self):
        for texts in (("p", "not p"), ("false",), ("(p and not p)",), ("all X f(X)", "some X not f(X)"), ("(p then false)", "p")):
            for goal in ("q", "not q", "false", "all X g(X)", "some X r(X, a)"):
                self.expect(*told(texts, goal))

    def test_a_given_that_stands_twice(self):
        tree, lines = self.expect(*told(("p", "q", "p"), "(p and q)"))
        self.assertEqual([line[2] for line in lines if line[1] == "given"], [P, Q, P])
        self.expect(*told(("p", "p"), "p"))

    def test_the_denial_of_the_goal_given(self):
        self.expect((("not", P), P), P)
        self.expect((("not", FALSE), FALSE), FALSE)

    def test_new_names(self):
        tree, lines = self.expect(*told(("some X (f(X) and p)", "some X (g(X) and p)", "h(c0)"), "(some X f(X) and some X g(X))"))
        self.assertEqual(names_of_lines(lines), {"c0", "c1", "c2"})
        tree, lines = self.expect(*told(("some X p", "some X q"), "(p and q)"))
        self.assertEqual(names_of_lines(lines), {"c0", "c1"})

    def test_opens_of_what_its_letter_does_not_stand_in(self):
        """They leave no box to go on in, so that boxes are within one another only as often as names are new."""
        for givens, goal in (
            (("some X p",), "p"), (("not all X p",), "not p"), (("p",), "all X p"), (("some X r(a, b)",), "some Y r(a, Y)"),
            (("some X all X f(X)", "not all Y g"), "(f(a) and not g)"), (("some X some Y some Z f(Y)",), "some Y f(Y)"),
        ):
            self.expect(*told(givens, goal))
        somes, denials = [], []
        for k in range(20):
            A, B = read(f"p{k}"), read(f"q{k}")
            for often in range(25):
                A = ("some", "X", A)
                B = ("not", ("all", "X", ("not", B))) if often < 8 else B
            somes.append(A)
            denials.append(B)
        goal = ("and", ("or", P, read("p19")), ("or", P, read("q19")))
        for k in range(19):
            goal = ("and", goal, ("and", read(f"p{k}"), read(f"q{k}")))
        tree, lines = self.expect(tuple(somes + denials), goal)
        self.assertEqual(len([node for node in tree if node[1] == "open"]), 20 * 25 + 20 * 8)
        self.assertLess(max(line[0] for line in lines), 30)

    def test_words_and_names_of_one_text(self):
        self.expect(*told(("all X p(p, X)", "p"), "(p and p(p, c0))"))
        self.expect(*told(("is(given)", "all X (is(X) then new(X, case))"), "new(given, case)"))


class Long(Written):
    def test_one_leads_to_the_next(self):
        row = [read("p0")] + [read(f"(p{k} then p{k + 1})") for k in range(39)]
        for givens in (row, row[::-1], row[::2] + row[1::2]):
            tree, lines = self.expect(tuple(givens), read("p39"))
            self.assertLess(max(line[0] for line in lines), 5)

    def test_names_along_a_row(self):
        names = [f"n{k}" for k in range(38)]
        row = tuple(read(f"r({one}, {other})") for one, other in zip(names, names[1:]))
        onward = read("all X all Y all Z ((r(X, Y) and r(Y, Z)) then r(X, Z))")
        self.expect(row + (onward,), read("r(n0, n37)"))

    def test_ors_one_behind_the_other(self):
        givens = [read("p0")]
        for k in range(13):
            givens.extend(read(text) for text in (f"(p{k} then (a{k} or b{k}))", f"(a{k} then p{k + 1})", f"(b{k} then p{k + 1})"))
        self.expect(tuple(givens), read("p13"))
        whole = read("p0")
        for k in range(1, 29):
            whole = ("or", whole, read(f"p{k}"))
        self.expect((whole,) + tuple(read(f"(p{k} then q)") for k in range(29)), Q)
        self.expect(pigeons(4), FALSE)

    def test_boxes_far_within_one_another(self):
        for form in ("some Y f{}(Y)", "not all Y not f{}(Y)"):
            givens = ["some X f0(X)"] + [f"all X (f{k}(X) then {form.format(k + 1)})" for k in range(38)]
            tree, lines = self.expect(*told(givens, "some X f38(X)"), 40)
            deepest = max(len(path) for path in boxes(lines))
            self.assertGreater(deepest, 39)
            self.assertLess(deepest, 500)

    def test_a_riddle(self):
        self.expect(RIDDLE, RIDDLE_GOAL)

    def test_thirty_deep(self):
        for rule in CHAIN_RULES:
            A = chain(rule, 29)
            for givens, goal in (((A,), A), ((A, ("not", A)), P), ((("not", ("not", A)),), A), ((), ("or", A, ("not", A)))):
                self.expect(givens, goal, 40)
        self.expect((chain("all", 30),), P, 40)
        self.expect((P,), chain("some", 30), 40)
        self.expect((P, Q), chain("and", 30), 40)
        self.expect((P, Q), chain("or", 30), 40)
        self.expect((chain("some", 30),), P, 40)
        self.expect((P,), chain("all", 30), 40)
        self.expect((chain("and", 30),), P)


class Refused(unittest.TestCase):
    def test_trees_that_are_not_shut(self):
        ends = set()
        for givens, goal, most, end in QUESTIONS:
            tree = tree_for(givens, goal, most)
            if end != "shut":
                ends.add(end)
                refused_with(self, NotShut, lambda: lines_of(givens, goal, tree))
        self.assertEqual(ends, {"done", "far"})


class Promises(unittest.TestCase):
    def test_the_same_lines_each_time(self):
        asked = [(givens, goal, tree_for(givens, goal, most)) for givens, goal, most, end in QUESTIONS if end == "shut"]
        first = [lines_of(givens, goal, tree) for givens, goal, tree in asked]
        kept = repr(first)
        again = [lines_of(givens, goal, tree) for givens, goal, tree in reversed(asked)]
        self.assertEqual(first, again[::-1])
        self.assertEqual(repr(first), kept)

    def test_what_is_handed_in_stays_as_it_is(self):
        for givens, goal, most, end in QUESTIONS:
            if end == "shut":
                tree = tree_for(givens, goal, most)
                kept = repr((givens, goal, tree))
                lines_of(givens, goal, tree)
                self.assertEqual(repr((givens, goal, tree)), kept)


if __name__ == "__main__":
    unittest.main()
