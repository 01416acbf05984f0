import unittest

from questions import QUESTIONS
from samples import FALSE, P, PX, Q, small_statements

from boxproof.search import tree_for
from boxproof.statements import free_in, names_in
from boxproof.texts import read
from boxproof.trees import branch, branch_world
from boxproof.worlds import fit_world, holds

R = ("is", "r", ())
FA = ("is", "f", ("a",))
FB = ("is", "f", ("b",))

# Two ors within one another; the first of each two has something beneath it.
TREE = (
    (-1, "start", None, None, (("or", P, Q), ("not", R))),
    (0, "or", ("or", P, Q), None, (P,)),
    (1, "use", P, "a", (FA, FB)),
    (2, "shut", P, None, ()),
    (0, "or", ("or", P, Q), None, (Q,)),
    (4, "or", P, None, (R,)),
    (5, "shut", P, None, ()),
    (4, "or", P, None, (P, P)),
    (7, "done", None, None, ()),
)
BRANCHES = (
    (("or", P, Q), ("not", R)),
    (("or", P, Q), ("not", R), P),
    (("or", P, Q), ("not", R), P, FA, FB),
    (("or", P, Q), ("not", R), P, FA, FB),
    (("or", P, Q), ("not", R), Q),
    (("or", P, Q), ("not", R), Q, R),
    (("or", P, Q), ("not", R), Q, R),
    (("or", P, Q), ("not", R), Q, P, P),
    (("or", P, Q), ("not", R), Q, P, P),
)


class BranchOfANode(unittest.TestCase):
    def test_each_node(self):
        for k, wanted in enumerate(BRANCHES):
            self.assertEqual(branch(TREE, k), wanted)
            self.assertIs(type(branch(TREE, k)), tuple)

    def test_what_the_nodes_say_else_is_nothing_to_it(self):
        for rule, of, name in (("done", FALSE, None), ("", None, "z"), ("nonsuch", FA, "not a name"), ("start", None, None)):
            nodes = tuple((node[0], rule, of, name, node[4]) for node in TREE)
            for k, wanted in enumerate(BRANCHES):
                self.assertEqual(branch(nodes, k), wanted)

    def test_nodes_behind_do_not_count(self):
        for k, wanted in enumerate(BRANCHES):
            self.assertEqual(branch(TREE[:k + 1], k), wanted)
            self.assertEqual(branch(TREE + ((k, "and", P, None, (FALSE,)),), k), wanted)

    def test_nothing_added(self):
        nodes = ((-1, "start", None, None, ()), (0, "shut", FALSE, None, ()))
        self.assertEqual([branch(nodes, k) for k in (0, 1)], [(), ()])

    def test_what_stands_twice_is_told_twice(self):
        nodes = ((-1, "start", None, None, (P, P)), (0, "and", P, None, (Q, P)))
        self.assertEqual(branch(nodes, 1), (P, P, Q, P))

    def test_a_long_branch(self):
        nodes = [(-1, "start", None, None, (P,))]
        nodes.extend((k, "use", P, "a", (("is", f"p{k}", ()),)) for k in range(5000))
        told = branch(tuple(nodes), 5000)
        self.assertEqual(told, (P,) + tuple(("is", f"p{k}", ()) for k in range(5000)))

    def test_trees_that_were_searched(self):
        for givens, goal, most, end in QUESTIONS:
            tree = tree_for(givens, goal, most)
            kept = repr(tree)
            self.assertEqual(branch(tree, 0), givens + (("not", goal),))
            for k, node in enumerate(tree[1:], start=1):
                self.assertEqual(branch(tree, k), branch(tree, node[0]) + node[4])
            self.assertEqual(repr(tree), kept)


class WorldOfABranch(unittest.TestCase):
    def expect(self, texts, wanted):
        statements = tuple(read(text) for text in texts)
        with self.subTest(texts=texts):
            self.assertEqual(branch_world(statements), wanted)
            self.assertEqual(branch_world(statements), wanted)
            self.assertTrue(fit_world(wanted))
            self.assertIs(type(branch_world(statements)[1]), tuple)
            self.assertIs(type(branch_world(statements)[2]), tuple)

    def test_no_name(self):
        self.expect((), (1, (), ()))
        self.expect(("p",), (1, (), (("p", ()),)))
        self.expect(("not p", "false", "all X f(X)"), (1, (), ()))

    def test_names_rise_as_texts_do(self):
        called = (("a", 0), ("c1", 1), ("c10", 2), ("c2", 3))
        self.expect(("f(c2)", "f(c10)", "r(a, c1)"), (4, called, (("f", (2,)), ("f", (3,)), ("r", (0, 1)))))

    def test_names_anywhere_in_a_statement(self):
        called = (("a", 0), ("b", 1), ("c", 2), ("d", 3))
        self.expect(("all X (r(X, d) then some Y not b(a, Y, c))", "not f(b)"), (4, called, ()))

    def test_facts_are_the_is_statements_that_stand_there(self):
        self.expect(("(f(a) and p)", "not g(a)", "not not q", "some X h(X)"), (1, (("a", 0),), ()))
        self.expect(("f(a)", "not f(a)"), (1, (("a", 0),), (("f", (0,)),)))

    def test_facts_rise_each_once(self):
        facts = (("f", ()), ("f", (0,)), ("f", (0, 0)), ("f", (0, 1)), ("f", (1,)), ("g", (0,)), ("g2", (0,)))
        texts = ("g2(a)", "g(a)", "f(b)", "f(a, b)", "f(a)", "f", "f(a, a)", "f(a)", "f", "g(a)")
        self.expect(texts, (2, (("a", 0), ("b", 1)), facts))

    def test_three_terms(self):
        self.expect(("t(b, a, b)",), (2, (("a", 0), ("b", 1)), (("t", (1, 0, 1)),)))

    def test_forty_names(self):
        names = sorted(f"n{k}" for k in range(40))
        world = branch_world(tuple(("is", "f", (name,)) for name in names))
        self.assertEqual(world, (40, tuple(zip(names, range(40))), tuple(("f", (k,)) for k in range(40))))

    def test_closed_statements_one_by_one(self):
        for A in small_statements(2):
            if free_in(A) == ():
                size, called, facts = branch_world((A, P))
                self.assertEqual(called, tuple((name, k) for k, name in enumerate(names_in(A))))
                self.assertEqual(size, max(1, len(called)))
                self.assertIn(("p", ()), facts)

    def test_branches_that_are_done(self):
        many = 0
        for givens, goal, most, end in QUESTIONS:
            tree = tree_for(givens, goal, most)
            if end == "done":
                many += 1
                statements = branch(tree, len(tree) - 1)
                world = branch_world(statements)
                self.assertTrue(fit_world(world))
                self.assertTrue(all(holds(world, A) for A in statements))
                self.assertTrue(all(holds(world, A) for A in givens))
                self.assertFalse(holds(world, goal))
        self.assertGreater(many, 10)

    def test_what_is_handed_in_stays_as_it_is(self):
        statements = (FB, FA, P, ("not", ("all", "X", PX)))
        kept = repr(statements)
        branch_world(statements)
        self.assertEqual(repr(statements), kept)


if __name__ == "__main__":
    unittest.main()
