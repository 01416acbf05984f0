import unittest

from plain_trees import names_of
from questions import QUESTIONS, pigeons, questions_by_chance, words_in
from samples import FALSE, P, Q, small_worlds

from boxproof.answers import answer
from boxproof.checker import lets_by
from boxproof.flat import flat, to_open
from boxproof.search import tree_for
from boxproof.texts import read
from boxproof.trees import branch, branch_world
from boxproof.worlds import fit_world, holds
from boxproof.writer import lines_of

KINDS = {"shut": "derived", "done": "none", "far": "far"}


def told(texts, goal):
    return tuple(read(text) for text in texts), read(goal)


class Answers(unittest.TestCase):
    def expect(self, givens, goal, most):
        """The answer is one by point 71, and tells what points 3 and 4 promise of it."""
        with self.subTest(givens=givens, goal=goal, most=most):
            found = answer(givens, goal, most)
            self.assertIs(type(found), tuple)
            kind, what = found
            if kind == "derived":
                self.assertTrue(lets_by(givens, goal, what))
            elif kind == "none":
                self.check_world(what, givens, goal)
            else:
                self.assertEqual(found, ("far", None))
                names = len(names_of(givens + (goal,)))
                self.assertFalse(flat(givens, goal) and most >= max(1, names + to_open(givens, goal)))
            return found

    def check_world(self, world, givens, goal):
        self.assertTrue(fit_world(world))
        called = [name for name, thing in world[1]]
        for name in names_of(givens + (goal,)):
            self.assertIn(name, called)
        for A in givens:
            self.assertIs(holds(world, A), True)
        self.assertIs(holds(world, goal), False)

    def test_told_ones(self):
        for givens, goal, most, end in QUESTIONS:
            kind, what = self.expect(givens, goal, most)
            self.assertEqual(kind, KINDS[end])

    def test_what_each_tells(self):
        for givens, goal, most, end in QUESTIONS:
            tree = tree_for(givens, goal, most)
            if end == "shut":
                self.assertEqual(answer(givens, goal, most), ("derived", lines_of(givens, goal, tree)))
            elif end == "done":
                self.assertEqual(answer(givens, goal, most), ("none", branch_world(branch(tree, len(tree) - 1))))
            else:
                self.assertEqual(answer(givens, goal, most), ("far", None))

    def test_worlds_word_for_word(self):
        self.assertEqual(answer((), FALSE, 1), ("none", (1, (), ())))
        self.assertEqual(answer((P,), Q, 1), ("none", (1, (), (("p", ()),))))
        self.assertEqual(answer(*told(("f(b)",), "f(a)"), 1), ("none", (2, (("a", 0), ("b", 1)), (("f", (1,)),))))
        self.assertEqual(answer(*told(("all X f(X)",), "p"), 1), ("none", (1, (("c0", 0),), (("f", (0,)),))))
        world = (2, (("c0", 0), ("c1", 1)), (("f", (0,)),))
        self.assertEqual(answer(*told(("some X f(X)",), "all X f(X)"), 2), ("none", world))
        self.assertEqual(answer(*told(("some X f(X)",), "all X f(X)"), 1), ("far", None))

    def test_a_name_of_the_goal_alone_is_called(self):
        for texts, goal in ((("p",), "f(a)"), (("f(b)",), "(r(a, c) and all X g(X, d))"), ((), "some X r(X, a)")):
            found = self.expect(*told(texts, goal), 8)
            self.assertEqual(found[0], "none")

    def test_the_same_each_time(self):
        asked = [(givens, goal, most) for givens, goal, most, end in QUESTIONS]
        asked.extend(questions_by_chance(71, 300))
        first = [answer(givens, goal, most) for givens, goal, most in asked]
        kept = repr(first)
        again = [answer(givens, goal, most) for givens, goal, most in reversed(asked)]
        self.assertEqual(first, again[::-1])
        self.assertEqual(repr(first), kept)

    def test_what_is_handed_in_stays_as_it_is(self):
        for givens, goal, most, end in QUESTIONS:
            kept = repr((givens, goal))
            answer(givens, goal, most)
            self.assertEqual(repr((givens, goal)), kept)

    def test_held_against_all_small_worlds(self):
        """Points 2, 3 and 4: what is derived fails in no world of one to three things, what is not fails in the one told."""
        many = {"derived": 0, "none": 0, "far": 0}
        for givens, goal, most in questions_by_chance(234, 1500):
            kind = self.expect(givens, goal, most)[0]
            many[kind] += 1
            if kind == "derived":
                self.check_derived(givens, goal)
        self.assertGreater(min(many.values()), 100)

    def check_derived(self, givens, goal):
        names, words = names_of(givens + (goal,)), words_in(givens + (goal,))
        for size in (1, 2, 3):
            if size ** len(names) * 2 ** sum(size ** length for word, length in words) <= 600:
                for world in small_worlds(size, names, words):
                    if all(holds(world, A) for A in givens):
                        self.assertTrue(holds(world, goal))

    def test_what_all_small_worlds_tell_of_words_alone(self):
        """Of words of no terms one thing is as good as any: derived is just what holds in each such world."""
        for givens, goal, most in questions_by_chance(235, 3000):
            words = words_in(givens + (goal,))
            if all(length == 0 for word, length in words):
                worlds = [world for world in small_worlds(1, (), words) if all(holds(world, A) for A in givens)]
                wanted = "derived" if all(holds(world, goal) for world in worlds) else "none"
                self.assertEqual(answer(givens, goal, 40)[0], wanted)

    def test_bounds(self):
        givens = (read("p0"),) + tuple(read(f"(p{k} then p{k + 1})") for k in range(39))
        self.assertEqual(self.expect(givens, read("p39"), 1)[0], "derived")
        self.assertEqual(self.expect(givens[1:], read("p39"), 1)[0], "none")
        givens = tuple(read(f"some X f{k}(X)") for k in range(40))
        self.assertEqual(self.expect(givens, P, 40)[1][0], 40)
        self.assertEqual(self.expect(givens, P, 39)[0], "far")
        givens = tuple(read(f"f{k}(n{k})") for k in range(40))
        self.assertEqual(self.expect(givens, read("some X (f0(X) and f1(X))"), 1)[0], "none")
        self.assertEqual(self.expect(givens, read("some X some Y (f0(X) and f39(Y))"), 1)[0], "derived")
        self.assertEqual(self.expect(pigeons(4), FALSE, 1)[0], "derived")
        self.assertEqual(self.expect(pigeons(4)[:-1], FALSE, 1)[0], "none")


if __name__ == "__main__":
    unittest.main()
