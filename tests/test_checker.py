import itertools
import random
import unittest

from derivations import DERIVATIONS, EACH_RULE
from plain_steps import plain_boxes, plainly_follows
from samples import FALSE, P, PX, Q, chain

from boxproof.checker import lets_by, wrong_at
from boxproof.linetexts import read_lines
from boxproof.lines import boxes, opens
from boxproof.statements import names_in
from boxproof.texts import read
from boxproof.worlds import holds

# A derivation with boxes within one another, for these givens and that goal.
GIVENS = tuple(read(text) for text in ("all X (f(X) then g(X))", "some X f(X)"))
GOAL = read("some Y (g(Y) and not not f(Y))")
LINES = read_lines(
    """
    all X (f(X) then g(X)) ; given
    some X f(X) ; given
    | f(c) ; case c
    | (f(c) then g(c)) ; each 0 c
    | g(c) ; use 3 2
    | | not f(c) ; guess
    | | false ; clash 2 5
    | not not f(c) ; deny 5
    | (g(c) and not not f(c)) ; both 4 7
    | some Y (g(Y) and not not f(Y)) ; some 8 c
    some Y (g(Y) and not not f(Y)) ; one 1 2
    """
)


def plainly_wrong_at(lines):
    """The first line that doesn't follow, by points 41 and 42 word for word, or None."""
    for k in range(len(lines)):
        paths = plain_boxes(lines[:k + 1])
        if paths is None or not plainly_follows(lines[:k + 1], paths, k):
            return k
    return None


def with_line(lines, k, line):
    return lines[:k] + (line,) + lines[k + 1:]


class WrongAt(unittest.TestCase):
    def expect(self, lines, wanted):
        with self.subTest(lines=repr(lines)[:120]):
            self.assertEqual(wrong_at(lines), wanted)
            self.assertIs(type(wrong_at(lines)), type(wanted))
            self.assertEqual(wrong_at(list(lines)), wanted)
            self.assertEqual(plainly_wrong_at(lines), wanted)

    def test_where_all_lines_follow(self):
        self.expect((), None)
        self.expect(LINES, None)
        for rule, lines in DERIVATIONS:
            self.expect(lines, None)

    def test_one_line_that_does_not_follow(self):
        for k in range(len(LINES)):
            level, rule, statement, refs = LINES[k]
            self.expect(with_line(LINES, k, (level, "nonsuch", statement, refs)), k)
            self.expect(with_line(LINES, k, (level, rule, statement, refs + (0,))), k)
            self.expect(with_line(LINES, k, (level, rule, None, refs)), k)
            self.expect(with_line(LINES, k, (level, rule, PX, refs)), k)

    def test_the_first_of_several(self):
        wrong = (0, "nonsuch", P, ())
        self.expect((wrong, wrong, wrong), 0)
        self.expect(((0, "given", P, ()), wrong, (0, "again", P, (1,)), wrong), 1)
        self.expect(read_lines("p ; given\nq ; again 0\nq ; again 1\nr ; again 0"), 1)
        self.expect(read_lines("q ; again 0\nq ; again 0"), 0)

    def test_the_last_one(self):
        self.expect(read_lines("p ; given\np ; again 0\nq ; again 1"), 2)
        self.expect(LINES + ((0, "again", P, (0,)),), len(LINES))

    def test_lines_of_no_derivation(self):
        """The level is wrong at the first line, in the midst and at the last."""
        for k in range(len(LINES)):
            level, rule, statement, refs = LINES[k]
            for wrong in (-1, -5, level + 2, level + 3, 100) + ((0,) if opens(rule) else ()):
                changed = with_line(LINES, k, (wrong, rule, statement, refs))
                self.assertIsNone(plain_boxes(changed))
                self.expect(changed, k)
                self.expect(changed[:k + 1], k)

    def test_a_level_that_there_may_be_but_that_does_not_follow(self):
        for k in range(2, len(LINES)):
            level, rule, statement, refs = LINES[k]
            for other in (0, 1, 2, 3):
                changed = with_line(LINES, k, (other, rule, statement, refs))
                self.assertEqual(wrong_at(changed), plainly_wrong_at(changed))

    def test_a_line_that_would_follow_but_for_its_level(self):
        self.expect(((0, "given", P, ()), (1, "again", P, (0,))), 1)
        self.expect(((0, "guess", P, ()),), 0)
        self.expect(((0, "new", None, ("c",)),), 0)
        self.expect(((2, "guess", P, ()),), 0)
        self.expect(((0, "given", P, ()), (-1, "again", P, (0,)), (0, "again", P, (0,))), 1)

    def test_one_ahead_of_it_that_does_not_follow(self):
        for wrong in ((5, "again", P, (0,)), (0, "guess", P, ()), (-1, "again", P, (0,)), (3, "guess", P, ())):
            self.expect(((0, "given", P, ()), (0, "again", Q, (0,)), wrong), 1)
            self.expect(((0, "given", P, ()), (0, "again", P, (0,)), wrong), 2)
            self.expect((wrong, (0, "again", P, (7,))), 0)
            self.expect(((0, "given", P, ()), wrong, (0, "again", Q, (0,)), wrong), 1)
            self.expect(LINES[:5] + (wrong,) + LINES[5:], 5)
            self.expect(with_line(LINES[:5], 3, (1, "again", P, (0,))) + (wrong,) + LINES[5:], 3)

    def test_a_name_behind_is_no_bar_ahead(self):
        self.expect(read_lines("| ; new c\n| f(c) ; guess\n| f(c) ; again 1\n| f(c) ; case c"), 3)
        self.expect(read_lines("| ; new c\n| ; new d\n| f(e) ; case e\n| ; new f\n| ; new d"), 4)

    def test_a_given_behind_another_rule(self):
        self.expect(read_lines("p ; given\nq ; given\np ; again 0\np ; given"), 3)
        self.expect(read_lines("p ; given\n| q ; guess\nq ; given"), 2)

    def test_derivations_changed_by_chance(self):
        chance = random.Random(42)
        parts = [line for rule, lines in DERIVATIONS for line in lines] + list(LINES)
        told = {}
        for often in range(10000):
            lines = list(LINES if often % 2 else chance.choice(DERIVATIONS)[1])
            for more in range(chance.choice((1, 2, 3))):
                k = chance.randrange(len(lines))
                kind = chance.randrange(4)
                if kind == 0:
                    lines[k] = (chance.choice((-1, 0, 1, 2)),) + lines[k][1:]
                elif kind == 1:
                    lines.insert(k, chance.choice(parts))
                elif kind == 2 and len(lines) > 1:
                    lines.pop(k)
                else:
                    lines[k] = chance.choice(parts)
            found = wrong_at(tuple(lines))
            self.assertEqual(found, plainly_wrong_at(tuple(lines)), lines)
            told[found] = told.get(found, 0) + 1
        self.assertGreater(min(told.get(place, 0) for place in (None, 0, 1, 2, 3)), 50)


class LetsBy(unittest.TestCase):
    def expect(self, givens, goal, lines, wanted):
        self.assertIs(lets_by(givens, goal, lines), wanted)
        self.assertIs(lets_by(givens, goal, list(lines)), wanted)

    def test_let_by(self):
        self.expect(GIVENS, GOAL, LINES, True)
        self.expect(GIVENS[::-1], GOAL, LINES, True)
        self.expect(GIVENS + (P, FALSE), GOAL, LINES, True)
        self.expect(GIVENS + GIVENS, GOAL, LINES, True)
        self.expect((P,), P, read_lines("p ; given"), True)
        self.expect((P,), P, read_lines("p ; given\np ; given\np ; again 0"), True)
        self.expect((), read("(p then p)"), read_lines("| p ; guess\n(p then p) ; then 0"), True)

    def test_no_lines(self):
        self.expect((), P, (), False)
        self.expect((P,), P, (), False)
        self.expect((), read("(p then p)"), (), False)

    def test_a_line_that_does_not_follow(self):
        for k in range(len(LINES)):
            level, rule, statement, refs = LINES[k]
            self.expect(GIVENS, GOAL, with_line(LINES, k, (level, rule, statement, refs + (0,))), False)
        self.expect((P,), P, read_lines("p ; given\nq ; again 0\np ; again 0"), False)
        self.expect((P,), P, read_lines("p ; again 0"), False)

    def test_a_given_that_is_none_of_the_givens(self):
        self.expect(GIVENS[:1], GOAL, LINES, False)
        self.expect(GIVENS[1:], GOAL, LINES, False)
        self.expect((), GOAL, LINES, False)
        self.expect((P,), P, read_lines("p ; given\nq ; given\np ; again 0"), False)
        self.expect((P,), P, read_lines("q ; given\np ; given\np ; again 1"), False)
        self.expect((("not", P),), P, read_lines("p ; given"), False)
        self.expect((("and", P, Q),), P, read_lines("p ; given"), False)

    def test_a_last_line_in_a_box(self):
        self.expect((), P, read_lines("| p ; guess"), False)
        self.expect((P,), P, read_lines("p ; given\n| q ; guess\n| p ; again 0"), False)
        self.expect((P,), P, read_lines("p ; given\n| ; new c"), False)
        for k in range(2, len(LINES) - 1):
            self.expect(GIVENS, LINES[k][2], LINES[:k + 1], False)

    def test_a_last_line_of_another_statement(self):
        self.expect(GIVENS, read("some Y (g(Y) and not f(Y))"), LINES, False)
        self.expect(GIVENS, read("some X (g(X) and not not f(X))"), LINES, False)
        self.expect((P, Q), P, read_lines("p ; given\nq ; given"), False)
        self.expect((P, Q), Q, read_lines("p ; given\nq ; given"), True)
        self.expect((P,), Q, read_lines("p ; given"), False)

    def test_lines_of_no_derivation(self):
        self.expect((P,), P, ((0, "given", P, ()), (1, "again", P, (0,)), (0, "again", P, (0,))), False)
        self.expect((P,), P, ((0, "given", P, ()), (1, "again", P, (0,))), False)
        self.expect((P,), P, ((0, "guess", P, ()),), False)
        self.expect((P,), P, ((0, "given", P, ()), (0, "guess", P, ())), False)
        self.expect((P,), P, ((-1, "again", P, ()), (0, "given", P, ())), False)


WORDS = (("f", 1), ("g", 1), ("p", 0), ("q", 0), ("r", 2))


def worlds_for(lines, chance, often):
    """Worlds of one to three things, found by chance, in which the names of the lines are called."""
    names = set()
    for level, rule, statement, refs in lines:
        names.update(names_in(statement) if statement is not None else ())
        names.update(ref for ref in refs if type(ref) is str)
    for k in range(often):
        size = 1 + k % 3
        called = tuple((name, chance.randrange(size)) for name in sorted(names))
        share = chance.choice((0.2, 0.5, 0.8))
        facts = []
        for word, length in WORDS:
            for things in itertools.product(range(size), repeat=length):
                if chance.random() < share:
                    facts.append((word, things))
        yield (size, called, tuple(facts))


class Holds(unittest.TestCase):
    """Points 2 and 44: what is let by holds."""

    def sound(self, lines, chance, often):
        """In how many worlds all givens held; in each of these line k holds where what opens its boxes does."""
        self.assertIsNone(wrong_at(lines))
        paths = boxes(lines)
        asked = 0
        for world in worlds_for(lines, chance, often):
            told = [line[2] is None or holds(world, line[2]) for line in lines]
            if all(told[k] for k, line in enumerate(lines) if line[1] == "given"):
                asked += 1
                for k, path in enumerate(paths):
                    if all(told[b] for b in path):
                        self.assertTrue(told[k], (world, k, lines))
        return asked

    def test_the_derivation_with_boxes(self):
        chance = random.Random(2)
        self.assertIs(lets_by(GIVENS, GOAL, LINES), True)
        self.assertGreater(self.sound(LINES, chance, 300), 20)
        for world in worlds_for(LINES, chance, 300):
            if all(holds(world, one) for one in GIVENS):
                self.assertTrue(holds(world, GOAL))

    def test_derivations_for_each_rule(self):
        for rule, lines in DERIVATIONS:
            self.sound(lines, random.Random(43), 300)
        for lines in LONGER:
            self.sound(lines, random.Random(43), 300)

    def test_derivations_changed_by_chance(self):
        """What still follows, though a name, a ref, a level or a statement is another, still holds."""
        chance = random.Random(44)
        asked = {}
        for often in range(12000):
            base = chance.choice(LONGER if often % 2 else [lines for rule, lines in DERIVATIONS])
            lines = base
            for more in range(chance.choice((1, 2))):
                lines = changed(lines, chance)
            told = lines[:wrong_at(lines)]
            if lines != base and len(told) > 1:
                held = self.sound(told, chance, 12)
                for line in told:
                    asked[line[1]] = asked.get(line[1], 0) + held
        self.assertEqual(set(asked), set(EACH_RULE))
        self.assertGreater(min(asked.values()), 200, asked)


# Each rule that takes a box or a name, where another name or ref could easily tell too much.
LONGER = [LINES] + [read_lines(text) for text in (
    """
    some X all Y r(X, Y) ; given
    | all Y r(c, Y) ; case c
    | | ; new d
    | | r(c, d) ; each 1 d
    | | some X r(X, d) ; some 3 c
    | all Y some X r(X, Y) ; every 2
    all Y some X r(X, Y) ; one 0 1
    """,
    """
    all X some Y r(X, Y) ; given
    | ; new d
    | some Y r(d, Y) ; each 0 d
    | | r(d, c) ; case c
    | | some X r(d, X) ; some 3 c
    | some X r(d, X) ; one 2 3
    all Y some X r(Y, X) ; every 1
    """,
    """
    all X (f(X) and g(X)) ; given
    | ; new c
    | (f(c) and g(c)) ; each 0 c
    | f(c) ; left 2
    all X f(X) ; every 1
    | ; new d
    | (f(d) and g(d)) ; each 0 d
    | g(d) ; right 6
    all X g(X) ; every 5
    (all X f(X) and all X g(X)) ; both 4 8
    """,
    """
    (some X f(X) or p) ; given
    (p then q) ; given
    | some X f(X) ; guess
    | | f(c) ; case c
    | | (f(c) or q) ; either 3
    | | some X (f(X) or q) ; some 4 c
    | some X (f(X) or q) ; one 2 3
    | p ; guess
    | q ; use 1 7
    | (f(a) or q) ; either 8
    | some X (f(X) or q) ; some 9 a
    some X (f(X) or q) ; cases 0 2 7
    """,
    """
    not some X not f(X) ; given
    | ; new c
    | | not f(c) ; guess
    | | some X not f(X) ; some 2 c
    | | false ; clash 3 0
    | f(c) ; absurd 2
    all X f(X) ; every 1
    """,
    """
    not p ; given
    | p ; guess
    | false ; clash 1 0
    | q ; any 2
    (p then q) ; then 1
    | (p and q) ; guess
    | p ; left 5
    | false ; clash 6 0
    not (p and q) ; deny 5
    not p ; again 0
    """,
)]
TERMS = ("a", "c", "d", "X", "Y")


def other_terms(A, chance):
    """The statement with another name or letter here and there."""
    if A[0] == "is":
        return A[:2] + (tuple(chance.choice(TERMS) if chance.random() < 0.5 else term for term in A[2]),)
    if A[0] in ("all", "some"):
        return A[:2] + (other_terms(A[2], chance),)
    return A[:1] + tuple(other_terms(part, chance) for part in A[1:])


def changed(lines, chance):
    """The lines with one part of one of them another, or with one name another throughout."""
    kind = chance.randrange(5)
    if kind == 0:
        old, new = chance.sample(("a", "c", "d"), 2)
        return tuple((level, rule, renamed(A, old, new), renamed_refs(refs, old, new)) for level, rule, A, refs in lines)
    k = chance.randrange(len(lines))
    level, rule, A, refs = lines[k]
    if kind == 1:
        return with_line(lines, k, (max(level + chance.choice((-1, 1)), 0), rule, A, refs))
    if kind == 2 and refs:
        place = chance.randrange(len(refs))
        ref = chance.choice(("a", "c", "d")) if type(refs[place]) is str else chance.randrange(len(lines))
        return with_line(lines, k, (level, rule, A, refs[:place] + (ref,) + refs[place + 1:]))
    if kind == 3 and A is not None:
        return with_line(lines, k, (level, rule, other_terms(A, chance), refs))
    return with_line(lines, k, (level, rule, chance.choice(lines)[2], refs))


def renamed(A, old, new):
    if A is None:
        return None
    if A[0] == "is":
        return A[:2] + (renamed_refs(A[2], old, new),)
    if A[0] in ("all", "some"):
        return A[:2] + (renamed(A[2], old, new),)
    return A[:1] + tuple(renamed(part, old, new) for part in A[1:])


def renamed_refs(refs, old, new):
    return tuple(new if ref == old else ref for ref in refs)


class AtTheBounds(unittest.TestCase):
    def test_500_boxes_within_one_another(self):
        lines = [(0, "given", P, ())]
        goal = P
        for k in range(500):
            lines.append((k + 1, "guess", chain("not", 40) if k % 2 else Q, ()))
        lines.append((500, "again", P, (0,)))
        wrong = list(lines)
        for k in range(499, 469, -1):
            goal = ("then", lines[k + 1][2], goal)
            lines.append((k, "then", goal, (k + 1,)))
            wrong.append((k, "then", goal, (k + 2,)))
        self.assertIsNone(wrong_at(lines))
        self.assertEqual(wrong_at(wrong), 502)
        self.assertIs(lets_by((P,), goal, lines), False)
        lines.append((0, "again", P, (0,)))
        self.assertIs(lets_by((P,), P, lines), True)
        self.assertEqual(wrong_at(lines + [(501, "guess", P, ())]), len(lines))

    def test_500_boxes_each_left_again(self):
        lines = [(k + 1, "guess", P, ()) for k in range(500)]
        lines += [(500, "again", P, (k,)) for k in range(499, 5499)]
        for k in range(499, -1, -1):
            lines.append((k, "again" if k else "then", P if k else ("then", P, P), (0,)))
        self.assertEqual(len(lines), 6000)
        self.assertIsNone(wrong_at(lines))
        self.assertIs(lets_by((), ("then", P, P), lines), True)
        self.assertEqual(wrong_at(lines[:5800] + [(499, "again", P, (0,))]), 5800)

    def test_6000_lines_of_each_a_new_name(self):
        lines = []
        for k in range(3000):
            lines.append((1, "case", ("is", "f", (f"c{k}",)), (f"c{k}",)))
            lines.append((1, "again", ("is", "f", (f"c{k}",)), (2 * k,)))
        self.assertIsNone(wrong_at(lines))
        lines[-2] = (1, "case", P, ("c17",))
        self.assertEqual(wrong_at(lines), 5998)

    def test_6000_givens(self):
        lines = [(0, "given", P, ())] * 6000
        self.assertIsNone(wrong_at(lines))
        self.assertIs(lets_by((Q, P), P, lines), True)

    def test_a_long_box_asked_for_often(self):
        lines = [(0, "given", ("or", P, P), ()), (1, "guess", P, ())] + [(1, "again", P, (1,))] * 2998
        lines += [(0, "cases", P, (0, 1, 1))] * 3000
        self.assertIsNone(wrong_at(lines))

    def test_statements_forty_deep(self):
        deepest = ("and", chain("all", 39), chain("then", 39))
        lines = [(0, "given", deepest, ())] + [(0, "left", deepest[1], (0,)), (0, "right", deepest[2], (0,))] * 50
        lines += [(0, "both", deepest, (1, 2)), (0, "each", deepest[1][2], (1, "c"))] * 50
        self.assertIsNone(wrong_at(lines))


class NothingChanged(unittest.TestCase):
    def test_handed_in_stays_and_asked_twice_is_the_same(self):
        lines = list(LINES)
        ahead = repr((GIVENS, GOAL, lines))
        self.assertIsNone(wrong_at(lines))
        self.assertIs(lets_by(GIVENS, GOAL, lines), True)
        self.assertEqual(wrong_at(lines[1:]), 2)
        self.assertIs(lets_by((), GOAL, lines), False)
        self.assertIsNone(wrong_at(lines))
        self.assertIs(lets_by(GIVENS, GOAL, lines), True)
        self.assertEqual(repr((GIVENS, GOAL, lines)), ahead)

    def test_lines_changed_later_are_looked_at_anew(self):
        lines = list(LINES)
        self.assertIsNone(wrong_at(lines))
        lines[4] = (1, "use", FALSE, (3, 2))
        self.assertEqual(wrong_at(lines), 4)


if __name__ == "__main__":
    unittest.main()
