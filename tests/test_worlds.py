import unittest

from refusals import refused_with
from samples import CHAIN_RULES, FALSE, NO_WORDS, P, PX, PY, Q, chain, small_statements, small_worlds

from boxproof.errors import NoName, NoStatement, NoWorld
from boxproof.statements import free_in, names_in, put
from boxproof.texts import read
from boxproof.worlds import calling, fit_world, holds


def plainly(world, A, places):
    """Whether it holds, by point 22 word for word, with things in the places of names and letters."""
    size, called, facts = world
    if A[0] == "is":
        return (A[1], tuple(places[term] for term in A[2])) in facts
    if A[0] == "false":
        return False
    if A[0] == "not":
        return not plainly(world, A[1], places)
    if A[0] in ("all", "some"):
        each = [plainly(world, A[2], {**places, A[1]: thing}) for thing in range(size)]
        return all(each) if A[0] == "all" else any(each)
    first, second = [plainly(world, part, places) for part in A[1:]]
    return {"and": first and second, "or": first or second, "then": not first or second}[A[0]]


class Fit(unittest.TestCase):
    def fits(self, *worlds):
        for world in worlds:
            with self.subTest(world=repr(world)[:80]):
                self.assertIs(fit_world(world), True)

    def fits_not(self, *worlds):
        for world in worlds:
            with self.subTest(world=repr(world)[:80]):
                self.assertIs(fit_world(world), False)

    def test_ordinary_worlds(self):
        self.fits(
            (1, (), ()),
            (2, (("ann", 1), ("tom", 0)), (("loves", (0, 1)), ("man", (0,)))),
            (3, (("a", 2),), ()),
            (3, (), (("p", ()),)),
            (3, (("a", 0), ("b", 0), ("c", 0)), (("p", (2, 2, 2)),)),
        )

    def test_the_size_is_a_number_from_one(self):
        self.fits((1, (), ()), (2, (), ()), (40, (), ()))
        self.fits_not((0, (), ()), (-1, (), ()), (-40, (), ()))
        self.fits_not((0, (), (("p", ()),)), (0, (("a", 0),), ()))

    def test_forty_things_and_more(self):
        self.fits((40, (("a", 39),), (("p", (39, 0, 39)),)))
        self.fits((41, (("a", 40),), (("p", (40,)),)), (100000, (("a", 99999),), ()))
        many = tuple(("p", (one, two)) for one in range(60) for two in range(60))
        self.fits((60, (), many))
        self.fits_not((59, (), many), (60, (), many + many), (60, (), many[1:] + many[:1]))

    def test_names_rise(self):
        self.fits((1, (("a", 0), ("b", 0)), ()), (1, (("a", 0), ("aa", 0), ("b", 0)), ()))
        self.fits((3, (("a", 2), ("b", 1), ("c", 0)), ()), (1, (("b10", 0), ("b2", 0)), ()))
        self.fits_not((1, (("b", 0), ("a", 0)), ()), (3, (("b", 0), ("a", 1)), ()), (1, (("b2", 0), ("b10", 0)), ()))
        self.fits_not((1, (("a", 0), ("c", 0), ("b", 0)), ()), (1, (("aa", 0), ("a", 0)), ()))

    def test_each_name_is_told_once(self):
        self.fits_not((2, (("a", 0), ("a", 0)), ()), (2, (("a", 0), ("a", 1)), ()), (2, (("a", 1), ("a", 0)), ()))
        self.fits_not((2, (("a", 0), ("b", 0), ("a", 1)), ()), (2, (("a", 0), ("b", 0), ("b", 1)), ()))

    def test_facts_rise(self):
        self.fits(
            (3, (), (("p", ()), ("p", (0,)), ("p", (0, 0)), ("p", (0, 0, 0)), ("p", (0, 1)), ("p", (1,)), ("q", ()))),
            (3, (), (("a", (2,)), ("b", (1,)), ("c", (0,)))),
            (12, (), (("p", (2,)), ("p", (10,)))),
            (3, (), (("p", (2,)), ("pp", ()))),
        )
        self.fits_not(
            (3, (), (("q", ()), ("p", ()))),
            (3, (), (("p", (1,)), ("p", (0,)))),
            (3, (), (("p", (0, 1)), ("p", (0, 0)))),
            (3, (), (("p", (1, 0)), ("p", (0, 1)))),
            (12, (), (("p", (10,)), ("p", (2,)))),
            (3, (), (("p", ()), ("r", ()), ("q", ()))),
        )

    def test_a_beginning_stands_ahead_of_what_is_longer(self):
        self.fits((2, (), (("p", ()), ("p", (0,)))), (2, (), (("p", (0,)), ("p", (0, 0)))))
        self.fits((2, (), (("p", (0, 1)), ("p", (0, 1, 0)))), (2, (), (("p", (0, 0, 1)), ("p", (0, 1)), ("p", (1,)))))
        self.fits_not((2, (), (("p", (0,)), ("p", ()))), (2, (), (("p", (0, 0)), ("p", (0,)))))
        self.fits_not((2, (), (("p", (0, 1, 0)), ("p", (0, 1)))), (2, (), (("p", (1,)), ("p", (0, 1)))))

    def test_each_fact_is_told_once(self):
        self.fits_not((2, (), (("p", ()), ("p", ()))), (2, (), (("p", (0, 1)), ("p", (0, 1)))))
        self.fits_not((2, (), (("p", (0,)), ("q", ()), ("p", (0,)))), (2, (), (("p", ()), ("q", (1,)), ("q", (1,)))))

    def test_names_and_words_are_those_of_point_11(self):
        for text in ("a", "abcdefgh", "a2345678", "is", "things", "nots"):
            self.fits((1, ((text, 0),), ()), (1, (), ((text, ()),)), (1, (), ((text, (0,)),)))
        for text in NO_WORDS:
            self.fits_not((1, ((text, 0),), ()), (1, (), ((text, ()),)), (1, (), ((text, (0,)),)))
        self.fits_not((1, (("a", 0), ("abcdefghi", 0)), ()), (1, (("Tom", 0), ("a", 0)), ()))
        self.fits_not((1, (), (("P", ()), ("p", ()))), (1, (), (("a", ()), ("abcdefghi", ()))))

    def test_things_are_from_nought_below_the_size(self):
        for size in (1, 2, 40):
            for thing in (0, size - 1):
                self.fits((size, (("a", thing),), ()), (size, (), (("p", (thing,)),)))
            for thing in (-1, -size, size, size + 1, 1000000):
                self.fits_not((size, (("a", thing),), ()), (size, (("a", 0), ("b", thing)), ()))
                self.fits_not((size, (), (("p", (thing,)),)), (size, (), (("p", (0, thing)),)))
                self.fits_not((size, (), (("p", (0, 0, thing)),)), (size, (), (("p", (thing, 0, 0)),)))
                self.fits_not((size, (), (("p", (0,)), ("q", (thing,)))))

    def test_a_fact_is_of_none_to_three_things(self):
        for length in range(4):
            self.fits((2, (), (("p", (1,) * length),)))
        for length in (4, 5, 8, 1000):
            self.fits_not((2, (), (("p", (1,) * length),)), (2, (), (("p", (0,)), ("q", (1,) * length))))

    def test_names_and_words_alike_are_two_affairs(self):
        self.fits((1, (("p", 0),), (("p", ()), ("p", (0,)))))


class Holding(unittest.TestCase):
    world = (2, (("ann", 1), ("bob", 0), ("tom", 0)), (("loves", (0, 1)), ("man", (0,)), ("p", ())))

    def holds(self, *texts):
        for text in texts:
            with self.subTest(text=text):
                self.assertIs(holds(self.world, read(text)), True)

    def holds_not(self, *texts):
        for text in texts:
            with self.subTest(text=text):
                self.assertIs(holds(self.world, read(text)), False)

    def test_an_is(self):
        self.holds("p", "man(tom)", "man(bob)", "loves(tom, ann)", "loves(bob, ann)")
        self.holds_not("q", "man(ann)", "loves(ann, tom)", "loves(tom, tom)", "p(tom)", "man", "loves", "loves(tom)")
        self.holds_not("loves(tom, ann, ann)", "man(tom, tom)", "tom", "ann(tom)")

    def test_a_word_of_no_terms_and_of_one_are_two(self):
        self.assertIs(holds((1, (("a", 0),), (("p", ()),)), read("p")), True)
        self.assertIs(holds((1, (("a", 0),), (("p", ()),)), read("p(a)")), False)
        self.assertIs(holds((1, (("a", 0),), (("p", (0,)),)), read("p")), False)
        self.assertIs(holds((1, (("a", 0),), (("p", (0,)),)), read("p(a)")), True)
        self.assertIs(holds((1, (("a", 0),), (("p", (0,)),)), read("p(a, a)")), False)

    def test_false_and_not(self):
        self.holds_not("false", "not p", "not not false", "not man(tom)")
        self.holds("not false", "not q", "not not p", "not man(ann)")

    def test_and_or_then(self):
        self.holds("(p and p)", "(p or p)", "(p or q)", "(q or p)", "(p then p)", "(q then p)", "(q then q)")
        self.holds_not("(p and q)", "(q and p)", "(q and q)", "(q or q)", "(p then q)")

    def test_all_and_some(self):
        self.holds("some X man(X)", "some X loves(tom, X)", "all X (man(X) then loves(X, ann))", "all X p", "some X p")
        self.holds("some X not man(X)", "all X (man(X) or not man(X))", "some X some Y loves(X, Y)")
        self.holds("some Y all X (man(X) then loves(X, Y))", "some X all Y (loves(X, Y) or man(Y))")
        self.holds_not("all X man(X)", "all X not man(X)", "some X loves(X, X)", "all X some Y loves(X, Y)", "some X q")
        self.holds_not("all X q", "some X false", "some Y all X loves(X, Y)", "some X (man(X) and loves(ann, X))")

    def test_an_all_or_some_within_one_of_that_letter(self):
        self.holds(
            "all X some X man(X)", "some X (man(X) and some X not man(X))", "some X (not man(X) and some X man(X))",
        )
        self.holds("some X (some X not man(X) and man(X))", "all X (some X man(X) and some X not man(X))")
        self.holds_not("some X all X man(X)", "all X (some X man(X) and man(X))", "some X (all X man(X) or false)")
        self.holds("all X (all X man(X) then man(X))", "some X (some X loves(X, ann) and not loves(X, ann))")

    def test_a_name_behind_a_quantifier_stays_as_called(self):
        self.holds("all X loves(tom, ann)", "some X (man(tom) and not man(X))")
        self.holds_not("some X man(ann)")

    def test_all_small_statements_in_small_worlds(self):
        statements = [one for one in small_statements(3) if free_in(one) == ()]
        worlds = []
        for size in (1, 2):
            worlds.extend(small_worlds(size, ("a",), (("p", 0), ("p", 1), ("q", 2))))
        for k, statement in enumerate(statements):
            for world in worlds[k % 7::7]:
                wanted = plainly(world, statement, dict(world[1]))
                self.assertIs(holds(world, statement), wanted, (world, statement))

    def test_letters_that_stand_crosswise(self):
        texts = (
            "all X some Y r(X, Y)", "some Y all X r(X, Y)", "all X all Y (r(X, Y) then r(Y, X))",
            "all X all Y all Z ((r(X, Y) and r(Y, Z)) then r(X, Z))", "some X all Y (r(X, Y) then some X r(Y, X))",
            "all X (some Y r(X, Y) then some Y (r(Y, X) and all X r(X, Y)))", "some X (r(X, a) and all Y r(Y, X))",
            "all X (p(X) or some Y (r(X, Y) and all X (p(X) then r(X, Y))))",
            "all X some Y (r(X, Y) and some X r(X, a))",
            "all Y (some X (r(X, Y) and some X r(Y, X)) then r(Y, Y))", "all X all Y some X (r(X, Y) and p(X))",
        )
        statements = [read(text) for text in texts]
        for size in (1, 2):
            for world in small_worlds(size, ("a",), (("p", 1), ("r", 2))):
                for statement in statements:
                    self.assertIs(
                        holds(world, statement), plainly(world, statement, dict(world[1])), (world, statement),
                    )

    def test_three_terms_and_forty_things(self):
        every = tuple(("r", (a, b, c)) for a in range(40) for b in range(40) for c in range(40))
        statement = read("all X all Y all Z r(X, Y, Z)")
        self.assertIs(holds((40, (), every), statement), True)
        self.assertIs(holds((40, (), every[:-1]), statement), False)
        self.assertIs(holds((40, (), every[1:]), statement), False)
        self.assertIs(holds((40, (), every[-1:]), read("some X some Y some Z r(X, Y, Z)")), True)
        self.assertIs(holds((40, (), ()), read("some X some Y some Z r(X, Y, Z)")), False)
        self.assertIs(holds((40, (("a", 39),), (("p", (39,)),)), read("some X (p(X) and p(a))")), True)

    def test_forty_deep(self):
        for size in (1, 2, 40):
            for rule in CHAIN_RULES:
                for world in ((size, (), ()), (size, (), (("p", ()),)), (size, (), (("p", ()), ("q", ())))):
                    if rule in ("all", "some"):
                        wanted = ("p", ()) in world[2]
                    else:
                        wanted = plainly(world, chain(rule, 40), {})
                    self.assertIs(holds(world, chain(rule, 40)), wanted)

    def test_forty_deep_with_quantifiers_in_one_another(self):
        """Each quantifier is asked again for each thing of the one around it, and there are twenty of them."""
        half = tuple(("p", (thing,)) for thing in range(40))
        for letters in ("X", "XY"):
            made = ("some", letters[-1], ("is", "p", (letters[-1],)))
            for k in range(19):
                letter = letters[k % len(letters)]
                made = ("all", letter, ("and", ("is", "p", (letter,)), made))
            self.assertIs(holds((40, (), half), made), True)
            self.assertIs(holds((40, (), half[:-1]), made), False)
            self.assertIs(holds((40, (), half[1:]), made), False)


class HoldingRefuses(unittest.TestCase):
    world = (2, (("a", 0),), (("p", ()), ("p", (0,))))

    def refuse(self, kind, text):
        with self.subTest(text=text):
            refused_with(self, kind, lambda: holds(self.world, read(text)))

    def test_a_free_letter(self):
        for text in ("p(X)", "not p(X)", "(p and p(X))", "all Y p(X)", "(all X p(X) and p(X))", "some X p(X, Y, a)"):
            self.refuse(NoStatement, text)

    def test_a_free_letter_in_a_part_that_would_not_matter(self):
        for text in ("(false and p(X))", "(p or p(X))", "(false then p(X))", "(p(X) then p)", "(p or all Y q(Y, X))"):
            self.refuse(NoStatement, text)

    def test_a_free_letter_where_a_name_is_not_called_too(self):
        for text in ("q(X, b)", "q(b, X)", "(p(b) and p(X))", "(p(X) and p(b))", "(p(b) or all X p(Y))"):
            self.refuse(NoStatement, text)

    def test_a_name_that_is_not_called(self):
        for text in ("p(b)", "not p(b)", "(p and p(b))", "all X p(b)", "some X q(X, a, b)", "q(a, b)"):
            self.refuse(NoName, text)

    def test_a_name_that_is_not_called_in_a_part_that_would_not_matter(self):
        for text in ("(false and p(b))", "(p or p(b))", "(false then p(b))", "(p(b) then p)", "(p or some X q(X, b))"):
            self.refuse(NoName, text)
        self.refuse(NoName, "all X (p(a) or p(b))")
        self.refuse(NoName, "(all X p(X) and p(b))")

    def test_a_word_is_no_name(self):
        self.assertIs(holds(self.world, read("b")), False)
        self.assertIs(holds((1, (), ()), read("not a")), True)
        refused_with(self, NoName, lambda: holds((1, (), (("a", ()),)), read("p(a)")))


class Calling(unittest.TestCase):
    world = (3, (("ann", 1), ("c", 2), ("tom", 0)), (("man", (0,)), ("p", ())))

    def test_a_name_that_was_called_otherwise(self):
        facts = self.world[2]
        self.assertEqual(calling(self.world, "ann", 0), (3, (("ann", 0), ("c", 2), ("tom", 0)), facts))
        self.assertEqual(calling(self.world, "c", 0), (3, (("ann", 1), ("c", 0), ("tom", 0)), facts))
        self.assertEqual(calling(self.world, "tom", 2), (3, (("ann", 1), ("c", 2), ("tom", 2)), facts))

    def test_a_name_that_was_called_just_so(self):
        self.assertEqual(calling(self.world, "ann", 1), self.world)
        self.assertEqual(calling(self.world, "tom", 0), self.world)

    def test_a_name_that_was_not_called(self):
        size, called, facts = self.world
        self.assertEqual(calling(self.world, "a", 2), (3, (("a", 2),) + called, facts))
        self.assertEqual(calling(self.world, "z", 1), (3, called + (("z", 1),), facts))
        self.assertEqual(calling(self.world, "b", 0), (3, called[:1] + (("b", 0),) + called[1:], facts))
        self.assertEqual(calling(self.world, "c0", 0), (3, called[:2] + (("c0", 0),) + called[2:], facts))
        self.assertEqual(calling((1, (), ()), "a", 0), (1, (("a", 0),), ()))

    def test_names_rise_as_texts_do(self):
        world = (5, (), ())
        for k, name in enumerate(("c2", "c10", "c", "b", "cc")):
            world = calling(world, name, k)
            self.assertIs(fit_world(world), True)
        self.assertEqual(world, (5, (("b", 3), ("c", 2), ("c10", 1), ("c2", 0), ("cc", 4)), ()))

    def test_a_name_like_a_word_of_the_facts(self):
        self.assertEqual(calling(self.world, "man", 1)[2], self.world[2])

    def test_no_thing_of_the_world(self):
        for size in (1, 3, 40):
            world = (size, (("a", 0),), ())
            for thing in (-1, -size, size, size + 1, 1000):
                for name in ("a", "b"):
                    refused_with(self, NoWorld, lambda: calling(world, name, thing))
            for thing in (0, size - 1):
                self.assertEqual(calling(world, "a", thing), (size, (("a", thing),), ()))

    def test_a_name_put_for_a_letter_and_the_thing_in_its_place(self):
        bodies = [one for one in small_statements(3) if "X" in free_in(one)]
        worlds = list(small_worlds(2, ("a",), (("p", 0), ("p", 1), ("q", 2))))
        for k, body in enumerate(bodies):
            closed = body if free_in(body) == ("X",) else ("some", "Y", body)
            for world in worlds[k % 31::31]:
                for thing in (0, 1):
                    wanted = plainly(world, closed, {**dict(world[1]), "X": thing})
                    self.assertIs(holds(calling(world, "c", thing), put(closed, "X", "c")), wanted)

    def test_a_name_of_the_statement_put_for_its_letter(self):
        body = read("q(X, b)")
        world = (2, (("b", 1),), (("q", (0, 1)),))
        self.assertEqual(names_in(put(body, "X", "c")), ("b", "c"))
        self.assertIs(holds(calling(world, "c", 0), put(body, "X", "c")), True)
        self.assertIs(holds(calling(world, "c", 1), put(body, "X", "c")), False)


class NothingChanged(unittest.TestCase):
    def test_handed_in_stays_and_asked_twice_is_the_same(self):
        world = (2, (("a", 0), ("b", 1)), (("p", ()), ("p", (0,)), ("q", (0, 1))))
        ahead = repr(world)
        statements = (P, Q, FALSE, ("all", "X", PX), ("some", "Y", PY), read("all X (p(X) then some Y q(X, Y))"))
        told = [holds(world, one) for one in statements]
        called = calling(world, "a", 1)
        self.assertIs(fit_world(world), True)
        self.assertEqual(repr(world), ahead)
        self.assertEqual([holds(world, one) for one in statements], told)
        self.assertEqual(calling(world, "a", 1), called)
        self.assertEqual(calling(called, "a", 0), world)
        self.assertEqual(called, (2, (("a", 1), ("b", 1)), world[2]))
        self.assertEqual(repr(world), ahead)

    def test_one_world_tells_nothing_of_another(self):
        statement = read("all X (p(X) and all X p(X))")
        self.assertIs(holds((2, (), (("p", (0,)), ("p", (1,)))), statement), True)
        self.assertIs(holds((2, (), (("p", (0,)),)), statement), False)
        self.assertIs(holds((1, (), (("p", (0,)),)), statement), True)
        self.assertIs(holds((2, (), (("p", (0,)), ("p", (1,)))), statement), True)


if __name__ == "__main__":
    unittest.main()
