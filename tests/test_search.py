import itertools
import unittest

from plain_trees import branch_of, by_and, by_open, by_or, by_use, can_be_shut, names_of, steps_left, wrong_in
from questions import QUESTIONS, RIDDLE, RIDDLE_GOAL, pigeons, questions_by_chance, words_in
from samples import CHAIN_RULES, FALSE, P, Q, chain, small_worlds

from boxproof.flat import flat, to_open
from boxproof.search import tree_for
from boxproof.statements import names_in
from boxproof.texts import read
from boxproof.trees import branch, branch_world
from boxproof.worlds import fit_world, holds


def ask(givens, goal, most=8):
    return tree_for(tuple(read(text) for text in givens), read(goal), most)


def nodes_by(tree, rule):
    return [node for node in tree if node[1] == rule]


def enough_names(givens, goal):
    return max(1, len(names_of(givens + (goal,))) + to_open(givens, goal))


class Checked(unittest.TestCase):
    def expect(self, givens, goal, most, end):
        """The tree is one by points 53 to 56, ends so, and its worlds, or those of the question, are as they must be."""
        with self.subTest(givens=givens, goal=goal, most=most):
            tree = tree_for(givens, goal, most)
            self.assertIsNone(wrong_in(tree, givens, goal, most))
            if end is not None:
                self.assertEqual(tree[-1][1], end)
            if tree[-1][1] == "done":
                self.check_done(tree, givens, goal)
            if tree[-1][1] == "far":
                self.assertFalse(flat(givens, goal) and most >= enough_names(givens, goal))
            return tree

    def check_done(self, tree, givens, goal):
        statements = branch(tree, len(tree) - 1)
        world = branch_world(statements)
        self.assertTrue(fit_world(world))
        for A in statements + givens:
            self.assertTrue(holds(world, A))
        self.assertFalse(holds(world, goal))


class Questions(Checked):
    def test_told_ones(self):
        for givens, goal, most, end in QUESTIONS:
            self.expect(givens, goal, most, end)

    def test_told_ones_with_more_names(self):
        for givens, goal, most, end in QUESTIONS:
            for more in (1, 2, 7):
                self.expect(givens, goal, most + more, end if end != "far" else None)

    def test_by_chance(self):
        ends = {"shut": 0, "done": 0, "far": 0}
        for givens, goal, most in questions_by_chance(53, 3000):
            tree = self.expect(givens, goal, most, None)
            ends[tree[-1][1]] += 1
        self.assertGreater(min(ends.values()), 200)

    def test_each_form_of_step_was_taken(self):
        forms = set()
        for givens, goal, most, end in QUESTIONS:
            for node in tree_for(givens, goal, most)[1:]:
                of = node[2]
                forms.add((node[1],) if of is None else (node[1], of[0], of[1][0] if of[0] == "not" else None))
        for wanted in (
            ("and", "and", None), ("and", "not", "or"), ("and", "not", "then"), ("and", "not", "not"),
            ("or", "or", None), ("or", "not", "and"), ("or", "then", None),
            ("use", "all", None), ("use", "not", "some"), ("open", "some", None), ("open", "not", "all"),
            ("shut", "false", None), ("shut", "is", None), ("shut", "not", "is"), ("done",), ("far",),
        ):
            self.assertIn(wanted, forms)


class StartAndEnds(Checked):
    def test_start(self):
        self.assertEqual(tree_for((), P, 1), ((-1, "start", None, None, (("not", P),)), (0, "done", None, None, ())))
        tree = tree_for((Q, P, Q), FALSE, 1)
        self.assertEqual(tree[0], (-1, "start", None, None, (Q, P, Q, ("not", FALSE))))

    def test_shut_at_once(self):
        self.assertEqual(tree_for((P,), P, 1)[1:], ((0, "shut", P, None, ()),))
        self.assertEqual(tree_for((FALSE,), P, 1)[1:], ((0, "shut", FALSE, None, ()),))
        self.assertEqual(tree_for((("not", ("not", P)),), P, 1)[1:], ((0, "shut", ("not", P), None, ()),))
        whole = read("all X (some Y r(X, Y) or p)")
        self.assertEqual(tree_for((whole,), whole, 1)[1:], ((0, "shut", whole, None, ()),))
        self.assertEqual(tree_for((whole, ("not", whole)), P, 1)[1:], ((0, "shut", whole, None, ()),))

    def test_not_false_is_no_clash(self):
        self.expect((("not", FALSE),), P, 1, "done")
        self.expect((), FALSE, 1, "done")

    def test_two_words_of_one_text(self):
        self.expect((read("f"),), read("some X f(X)"), 1, "done")
        self.expect((read("f(a)"),), read("f"), 1, "done")

    def test_two_branches_shut(self):
        tree = ask(("(p or q)", "not p", "not q"), "r")
        self.assertEqual([node[:3] for node in tree[1:]], [
            (0, "or", read("(p or q)")), (1, "shut", P), (0, "or", read("(p or q)")), (3, "shut", Q),
        ])
        self.assertEqual([node[4] for node in tree[1:]], [(P,), (), (Q,), ()])

    def test_branches_to_the_right_are_left_out(self):
        tree = self.expect((read("(p or q)"), read("(q or r)")), read("s"), 1, "done")
        self.assertEqual([node[0] for node in tree], list(range(-1, len(tree) - 1)))
        tree = self.expect((read("(p or q)"), read("not p")), read("s"), 1, "done")
        self.assertEqual([node[:2] for node in tree[1:]], [(0, "or"), (1, "shut"), (0, "or"), (3, "done")])

    def test_both_parts_though_one_stands_there(self):
        self.assertEqual(ask(("p", "(p and q)"), "q")[1], (0, "and", read("(p and q)"), None, (P, Q)))
        self.assertEqual(ask(("q", "(p and q)"), "p")[1], (0, "and", read("(p and q)"), None, (P, Q)))
        tree = ask(("(p and p)",), "p")
        self.assertEqual(tree[1], (0, "and", read("(p and p)"), None, (P, P)))

    def test_nothing_is_done_where_all_is_there(self):
        for text in ("(p and q)", "(p or q)", "(p or r)", "not (r and q)", "(r then s)", "(s then p)"):
            tree = self.expect((P, Q, ("not", read("r")), read(text)), read("t"), 1, "done")
            self.assertEqual(len(tree), 2)
        tree = self.expect(tuple(read(text) for text in ("all X f(X)", "f(a)", "some X f(X)", "all X p", "p")), Q, 2, "done")
        self.assertEqual(len(tree), 2)

    def test_an_or_of_one_statement_twice(self):
        tree = ask(("(p or p)",), "p")
        self.assertEqual([node[4] for node in nodes_by(tree, "or")], [(P,), (P,)])


class Names(Checked):
    def test_first_new_ones(self):
        for givens, goal, wanted in (
            (("some X f(X)", "some X g(X)"), "p", ["c0", "c1"]),
            (("some X f(X)", "some X g(X)", "h(c0)"), "p", ["c1", "c2"]),
            (("some X f(X)", "some X g(X)", "h(c1)"), "p", ["c0", "c2"]),
            (("some X f(X)", "some X g(X)"), "(h(c0) and r(c2, c1))", ["c3", "c4"]),
            (("some X f(X)", "some X g(X)", "(h(c1) or all X r(X, c0))"), "p", ["c2", "c3"]),
            (("some X f(X)", "some X g(X)", "h(c00)", "h(c)", "h(c10)"), "p", ["c0", "c1"]),
            (("some X p", "some X f(X)", "not all X g(X)"), "q", ["c0", "c1", "c2"]),
        ):
            tree = self.expect(tuple(read(text) for text in givens), read(goal), 8, "done")
            self.assertEqual([node[3] for node in nodes_by(tree, "open")], wanted)

    def test_a_name_of_another_branch_is_not_new(self):
        givens = ("(some X f(X) or some X g(X))", "all X not f(X)", "all X not g(X)")
        tree = ask(givens, "p")
        self.assertEqual([node[3] for node in nodes_by(tree, "open")], ["c0", "c1"])
        tree = ask(("(some X (f(X) and p) or some X g(X))", "not p"), "q")
        self.assertEqual([node[3] for node in nodes_by(tree, "open")], ["c0", "c1"])
        self.assertEqual(tree[-1][1], "done")
        # A name that a node told, though it stands in no statement.
        tree = self.expect((read("(some X p or some X g(X))"), read("not p")), Q, 8, "done")
        self.assertEqual([node[3] for node in nodes_by(tree, "open")], ["c0", "c1"])

    def test_none_stands_on_the_branch(self):
        tree = self.expect((read("all X f(X)"),), P, 1, "done")
        self.assertEqual(tree[1], (0, "use", read("all X f(X)"), "c0", (read("f(c0)"),)))
        tree = self.expect((read("all X p"), read("all X q"), read("all X f(X)")), read("r"), 1, "done")
        self.assertEqual([node[3] for node in nodes_by(tree, "use")], ["c0", "c1", "c2"])

    def test_none_stands_there_and_something_else_is_left(self):
        """The checked tree tells that no and, or or open is left where a use puts a new name."""
        for more in ("(p and q)", "(p or q)", "not not p", "(p then q)", "some X p", "not all X q", "some X g(X)"):
            for goal in ("r", "some X f(X)", "some X (f(X) and p)", "some X (f(X) and (p or q))"):
                for givens in (("all X f(X)", more), (more, "all X f(X)")):
                    self.expect(tuple(read(text) for text in givens), read(goal), 8, None)

    def test_names_that_stand_there_alone_are_used(self):
        tree = self.expect(tuple(read(text) for text in ("all X f(X)", "p(b)", "not g(a)")), P, 8, "done")
        self.assertEqual(sorted(node[3] for node in nodes_by(tree, "use")), ["a", "b"])

    def test_as_many_as_most(self):
        for most in range(1, 12):
            tree = self.expect((read("all X some Y r(X, Y)"),), P, most, "far")
            self.assertEqual(len(names_of(branch(tree, len(tree) - 1))), most)
        for many, most in itertools.product(range(1, 6), repeat=2):
            givens = tuple(read(f"some X f{k}(X)") for k in range(many))
            tree = self.expect(givens, P, most, "done" if many <= most else "far")
            self.assertEqual(len(nodes_by(tree, "open")), min(many, most))

    def test_more_than_most_from_the_start(self):
        givens = tuple(read(text) for text in ("f(a)", "f(b)", "f(c)", "some X f(X)"))
        self.expect(givens, P, 1, "done")
        self.expect(givens + (read("some X g(X)"),), P, 2, "far")
        self.expect(givens + (read("all X g(X)"), read("some X g(X)")), P, 3, "done")

    def test_far_only_where_opens_alone_are_left(self):
        givens = tuple(read(text) for text in ("some X f(X)", "some X g(X)", "(p or q)", "all X (h(X) or p)", "(q and r)"))
        self.expect(givens, read("s"), 1, "far")
        self.expect(givens + (read("not r"),), read("s"), 1, "shut")

    def test_where_most_is_reached_it_may_still_be_shut(self):
        self.expect(tuple(read(text) for text in ("some X f(X)", "some X g(X)", "all X not f(X)")), P, 1, "shut")


class Promises(Checked):
    def test_flat_ones_never_get_far(self):
        many = 0
        for givens, goal, most in questions_by_chance(57, 4000):
            if flat(givens, goal):
                many += 1
                most = enough_names(givens, goal)
                tree = self.expect(givens, goal, most, None)
                self.assertIn(tree[-1][1], ("shut", "done"))
                self.assertEqual(tree_for(givens, goal, most + 1)[-1][1], tree[-1][1])
        self.assertGreater(many, 2000)

    def test_the_same_each_time(self):
        asked = [(givens, goal, most) for givens, goal, most, end in QUESTIONS]
        asked.extend(questions_by_chance(1, 300))
        first = [tree_for(givens, goal, most) for givens, goal, most in asked]
        kept = repr(first)
        again = [tree_for(givens, goal, most) for givens, goal, most in reversed(asked)]
        self.assertEqual(first, again[::-1])
        self.assertEqual(repr(first), kept)

    def test_what_is_handed_in_stays_as_it_is(self):
        for givens, goal, most, end in QUESTIONS:
            kept = repr((givens, goal))
            tree_for(givens, goal, most)
            self.assertEqual(repr((givens, goal)), kept)

    def test_what_is_shut_holds(self):
        """In each world of one or two things, and of three where there are few, in which the givens hold the goal does."""
        asked = [(givens, goal, most) for givens, goal, most, end in QUESTIONS]
        asked.extend(questions_by_chance(4, 700))
        many = 0
        for givens, goal, most in asked:
            statements = givens + (goal,)
            names, words = names_of(statements), words_in(statements)
            if tree_for(givens, goal, most)[-1][1] == "shut" and len(names) <= 3:
                many += 1
                for size in (1, 2, 3):
                    if sum(size ** length for word, length in words) <= 8:
                        for world in small_worlds(size, names, words):
                            if all(holds(world, A) for A in givens):
                                self.assertTrue(holds(world, goal))
        self.assertGreater(many, 150)

    def test_what_fails_in_a_small_world_is_not_shut(self):
        many = 0
        for givens, goal, most in questions_by_chance(5, 500):
            statements = givens + (goal,)
            words = words_in(statements)
            worlds = small_worlds(1, names_of(statements), words)
            if any(all(holds(world, A) for A in givens) and not holds(world, goal) for world in worlds):
                many += 1
                self.assertNotEqual(tree_for(givens, goal, most)[-1][1], "shut")
        self.assertGreater(many, 100)


class Bounds(Checked):
    def test_forty_givens(self):
        row = [read("p0")] + [read(f"(p{k} then p{k + 1})") for k in range(39)]
        self.expect(tuple(row), read("p39"), 1, "shut")
        self.expect(tuple(reversed(row)), read("p39"), 1, "shut")
        self.expect(tuple(row[1::2] + row[::2]), read("p39"), 1, "shut")
        self.expect(tuple(row[1:]), read("p39"), 1, "done")
        self.expect(tuple(row[:20] + row[21:]), read("p39"), 1, "done")
        self.expect(tuple(read(f"some X f{k}(X)") for k in range(40)), read("false"), 40, "done")
        self.expect(tuple(read(f"some X f{k}(X)") for k in range(40)), read("false"), 39, "far")
        self.expect(tuple(read(f"(p{k} or q{k})") for k in range(40)), P, 1, "done")

    def test_ors_that_have_no_part_in_it(self):
        """They are more than could be gone through, each way with each."""
        ors = tuple(read(f"(p{k} or some X q{k}(X))") for k in range(36))
        four = tuple(read(text) for text in ("(a or b)", "(a or not b)", "(not a or b)", "(not a or not b)"))
        self.expect(ors + four, P, 8, "shut")
        self.expect(four + ors, P, 8, "shut")

    def test_pigeons(self):
        for many in (2, 3, 4):
            self.expect(pigeons(many), FALSE, 1, "shut")
            self.expect(pigeons(many)[1:], FALSE, 1, "done")

    def test_a_riddle(self):
        self.expect(RIDDLE, RIDDLE_GOAL, 8, "shut")

    def test_thirty_deep(self):
        for rule in CHAIN_RULES:
            A = chain(rule, 30)
            for givens, goal in (((A,), A), ((A,), P), ((P,), A), ((), A), ((A, P, Q), FALSE), ((("not", chain(rule, 29)),), Q)):
                self.expect(givens, goal, 40, None)
        letters = [f"X{k}" for k in range(29)]
        for terms in ((letters[0],), (letters[28],), (letters[0], letters[28]), ()):
            A = ("is", "f", terms)
            B = ("is", "f", terms)
            for k in range(28, -1, -1):
                A = ("all", letters[k], A)
                B = ("some", letters[k], B)
            self.expect((A,), B, 40, "shut")
            self.expect((B,), B, 40, "shut")
            self.expect((B,), ("is", "q", ()), 40, "done")

    def test_upon_forty_names(self):
        names = [f"n{k}" for k in range(40)]
        row = tuple(read(f"r({one}, {other})") for one, other in zip(names, names[1:]))
        across = read("all X all Y (r(X, Y) then r(Y, X))")
        tree = tree_for(row + (across,), read("r(n39, n38)"), 40)
        self.assertEqual(tree[-1][1], "shut")
        tree = tree_for(row[:-1] + (across, read("all X f(X)")), read("r(n39, n38)"), 40)
        self.assertEqual(tree[-1][1], "done")
        self.check_done(tree, row[:-1] + (across,), read("r(n39, n38)"))
        onward = read("all X all Y all Z ((r(X, Y) and r(Y, Z)) then r(X, Z))")
        self.expect(row + (onward,), read("r(n0, n20)"), 1, "shut")

    def test_a_branch_that_is_long(self):
        givens = tuple(read(text) for text in ("all X some Y r(X, Y)", "all X all Y s(X, Y)"))
        tree = tree_for(givens, P, 40)
        self.assertEqual(tree[-1][1], "far")
        self.assertGreater(len(branch_of(tree, len(tree) - 1)), 1000)


class TheTestsOwnTelling(unittest.TestCase):
    """That wrong_in takes no tree that isn't one."""

    GIVENS = tuple(read(text) for text in ("(p or some X f(X))", "all X not f(X)", "not p", "(q and q)"))
    GOAL = read("r")
    TREE = (
        (-1, "start", None, None, GIVENS + (("not", GOAL),)),
        (0, "or", GIVENS[0], None, (P,)),
        (1, "shut", P, None, ()),
        (0, "or", GIVENS[0], None, (read("some X f(X)"),)),
        (3, "and", GIVENS[3], None, (Q, Q)),
        (4, "open", read("some X f(X)"), "c0", (read("f(c0)"),)),
        (5, "use", GIVENS[1], "c0", (read("not f(c0)"),)),
        (6, "shut", read("f(c0)"), None, ()),
    )

    def wrong(self, tree, most=8):
        return wrong_in(tree, self.GIVENS, self.GOAL, most)

    def test_a_tree(self):
        self.assertIsNone(self.wrong(self.TREE))

    def test_changed_trees(self):
        for k, node in enumerate(self.TREE):
            others = [node[:4] + (node[4] + (P,),), node[:4] + ((FALSE,),), (k,) + node[1:], (k - 2,) + node[1:]]
            others.extend(node[:1] + (rule,) + node[2:] for rule in ("start", "and", "or", "use", "open", "shut", "done", "far", "x"))
            others.extend(node[:2] + (of,) + node[3:] for of in self.GIVENS + (None, FALSE, Q))
            others.extend(node[:3] + (name,) + node[4:] for name in (None, "c0", "c1", "a"))
            for other in others:
                if other != node:
                    self.assertIsNotNone(self.wrong(self.TREE[:k] + (other,) + self.TREE[k + 1:]), other)
            self.assertIsNotNone(self.wrong(self.TREE[:k] + self.TREE[k + 1:]))
            self.assertIsNotNone(self.wrong(self.TREE[:k + 1] + self.TREE[k:]))

    def test_what_is_left(self):
        there = {read(text) for text in ("(p and q)", "(p or q)", "some X f(X)", "all X f(X)", "f(a)", "not not p", "g(b)")}
        self.assertEqual(steps_left(there), {
            ("and", read("(p and q)")), ("or", read("(p or q)")), ("use", read("all X f(X)")), ("and", read("not not p")),
        })
        self.assertEqual(steps_left({read("all X f(X)")}), {("use", read("all X f(X)"))})
        self.assertEqual(steps_left({read("all X p"), P}), set())
        self.assertEqual(steps_left({read("some X p"), Q}), {("open", read("some X p"))})
        self.assertTrue(can_be_shut({P, ("not", P)}) and can_be_shut({FALSE}) and not can_be_shut({P, ("not", FALSE)}))

    def test_what_a_step_adds(self):
        self.assertEqual(by_and(read("not (p then q)")), (P, ("not", Q)))
        self.assertEqual(by_and(read("not (p or q)")), (("not", P), ("not", Q)))
        self.assertEqual(by_or(read("(p then q)")), (("not", P), Q))
        self.assertEqual(by_or(read("not (p and q)")), (("not", P), ("not", Q)))
        self.assertEqual(by_use(read("not some X f(X)"), "a"), read("not f(a)"))
        self.assertEqual(by_open(read("not all X f(X)"), "a"), read("not f(a)"))
        for A in (P, FALSE, ("not", P), ("not", FALSE)):
            self.assertEqual([by_and(A), by_or(A), by_use(A, "a"), by_open(A, "a")], [None] * 4)


if __name__ == "__main__":
    unittest.main()
