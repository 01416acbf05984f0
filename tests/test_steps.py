import random
import unittest

from derivations import DERIVATIONS, EACH_RULE
from plain_steps import plainly_follows
from samples import FALSE, P, Q, rows

from boxproof.errors import NoBox
from boxproof.linetexts import read_lines
from boxproof.lines import boxes
from boxproof.steps import follows

NO_NUMBERS = (
    True, False, None, "", "0", "1", "p", "c", "X", "new", 1.0, 0.0, (), (0,), [0], {}, {0: 1}, "a" * 100, b"0",
)
NO_NAMES = (
    0, 1, True, False, None, "", "X", "Tom", "tOm", "not", "all", "some", "false", "0", "0a", "abcdefghi", "a b",
    "a ", " a",
    "a\n", 1.0, (), ("a",), ["a"], {}, {"a": 1}, b"a",
)
NAME_PLACES = {"new": (0,), "case": (0,), "each": (1,), "some": (1,)}


def with_last(lines, **parts):
    """The lines with another level, rule, statement or refs in the last of them."""
    level, rule, statement, refs = lines[-1]
    told = {"level": level, "rule": rule, "statement": statement, "refs": refs, **parts}
    return lines[:-1] + ((told["level"], told["rule"], told["statement"], told["refs"]),)


def with_one(items, place, item):
    return items[:place] + (item,) + items[place + 1:]


class Asking(unittest.TestCase):
    def asked(self, lines, k, wanted):
        """Of these lines, of those up to k, of a list, and of the boxes of those up to k the answer is the same."""
        paths = boxes(lines)
        with self.subTest(lines=lines, k=k):
            self.assertIs(follows(lines, paths, k), wanted)
            self.assertIs(follows(list(lines), paths, k), wanted)
            self.assertIs(follows(lines, paths[:k + 1], k), wanted)
            self.assertIs(follows(lines[:k + 1], paths[:k + 1], k), wanted)
            self.assertIs(plainly_follows(lines, paths, k), wanted)

    def last(self, lines, wanted):
        self.asked(lines, len(lines) - 1, wanted)

    def lasts(self, *texts):
        """The last line of each of these follows, whatever comes behind it."""
        for text in texts:
            lines = read_lines(text)
            self.last(lines, True)
            self.asked(lines + rows((0, "nonsuch"), (1, "guess")), len(lines) - 1, True)

    def lasts_not(self, *texts):
        for text in texts:
            lines = read_lines(text)
            self.last(lines, False)
            self.asked(lines + rows((0, "nonsuch"), (1, "guess")), len(lines) - 1, False)


class EachRule(Asking):
    def test_each_line_of_the_derivations(self):
        self.assertEqual(set(rule for rule, lines in DERIVATIONS), set(EACH_RULE))
        for rule, lines in DERIVATIONS:
            self.assertEqual(lines[-1][1], rule)
            for k in range(len(lines)):
                self.asked(lines, k, True)

    def test_given(self):
        self.lasts("p ; given", "p ; given\np ; given", "f(a) ; given\nall X f(X) ; given\n(p and not p) ; given")
        self.lasts_not(
            "p ; given\np ; again 0\nq ; given", "p ; nonsuch\nq ; given", "| p ; guess\nq ; given",
            "| ; new c\np ; given",
        )
        self.lasts_not(
            "| p ; guess\n| q ; given", "p ; given\n| ; new c\n| p ; given", "p ; again 0\np ; given\nq ; given",
        )
        self.last(rows((0, "given"), (0, "again"), (0, "given")), False)

    def test_guess(self):
        self.lasts("| p ; guess", "| false ; guess", "| p ; guess\n| | p ; guess", "p ; nonsuch\n| f(a) ; guess")

    def test_new_and_case(self):
        for opening in ("| ; new c", "| p ; case c", "| f(c) ; case c", "| r(c, a) ; case c"):
            self.lasts(opening, "p ; given\n" + opening, "f(a) ; given\n" + opening, "c ; given\n" + opening)
            self.lasts("c(a) ; given\n" + opening, "f(cc) ; given\n" + opening, "all C f(C) ; given\n" + opening)
            self.lasts(
                "| ; new d\n" + opening, "| ; new d\n| | " + opening[2:], "p ; c\n" + opening,
                "p ; c 0 a\n" + opening,
            )
            self.lasts_not("f(c) ; given\n" + opening, "all X r(X, c) ; given\n" + opening, "| ; new c\n" + opening)
            self.lasts_not("| ; new c\n| | " + opening[2:], "| p ; case c\n" + opening, "p ; each 0 c\n" + opening)
            self.lasts_not(
                "f(a) ; given\n| f(c) ; guess\n" + opening, "f(a) ; given\n| f(c) ; guess\np ; again 0\n" + opening,
            )
            self.lasts_not(
                "| ; new c\np ; again 0\n" + opening, "| p ; guess\n| | not f(c) ; guess\np ; nonsuch\n" + opening,
            )
            self.lasts_not(
                "p ; nonsuch 0 1 2 c\n" + opening, "p ; nonsuch c c\n" + opening, "f(X) ; nonsuch c\n" + opening,
            )
            self.lasts_not(
                "r(X, c) ; nonsuch\n" + opening, "| p ; guess c\np ; given\n" + opening, "p ; given c\n" + opening,
            )

    def test_a_name_in_lines_that_are_none_of_their_rule(self):
        new = (1, "new", None, ("c",))
        named = ("is", "f", ("c",))
        self.last(((1, "new", named, ("d",)), new), False)
        self.last(((1, "new", P, ("d",)), new), True)
        self.last(((0, "given", None, ()), new), True)
        self.last(((0, "given", None, ("c",)), new), False)
        self.last(((1, "new", None, ()), new), True)
        for odd in (None, True, 0, ["c"], ("c",), {"c": "c"}, 1.5, "C", "c "):
            self.last(((0, "nonsuch", P, (odd,)), new), True)
            self.last(((0, "nonsuch", P, (odd, "c")), new), False)

    def test_the_name_of_a_line_behind_or_of_itself_is_no_bar(self):
        lines = read_lines("| f(c) ; case c\n| f(c) ; again 0\n| ; new c")
        self.asked(lines, 0, True)
        self.asked(lines, 2, False)

    def test_again(self):
        self.lasts(
            "p ; given\nq ; given\np ; again 0", "| p ; guess\n| p ; again 0", "| f(c) ; case c\n| f(c) ; again 0",
        )
        self.lasts_not("p ; given\nq ; again 0", "p ; given\nnot p ; again 0", "f(a) ; given\nf(b) ; again 0")
        self.lasts_not("all X f(X) ; given\nall Y f(Y) ; again 0", "p ; given\np(a) ; again 0")

    def test_both(self):
        self.lasts_not("p ; given\nq ; given\n(p and q) ; both 1 0", "p ; given\nq ; given\n(p or q) ; both 0 1")
        self.lasts_not("p ; given\nq ; given\n(p and q) ; both 0 0", "p ; given\nq ; given\n(p and q) ; both 1 1")
        self.lasts_not("p ; given\nq ; given\np ; both 0 1", "p ; given\nq ; given\n(p then q) ; both 0 1")
        self.lasts_not("p ; given\nq ; given\nnot (p and q) ; both 0 1", "p ; given\nq ; given\n(p and r) ; both 0 1")

    def test_left_and_right(self):
        self.lasts("((p and q) and r) ; given\n(p and q) ; left 0", "(r and (p and q)) ; given\n(p and q) ; right 0")
        self.lasts_not(
            "(p and q) ; given\nq ; left 0", "(p and q) ; given\np ; right 0",
            "((p and q) and r) ; given\np ; left 0",
        )
        for joint in ("or", "then"):
            self.lasts_not(f"(p {joint} q) ; given\np ; left 0", f"(p {joint} q) ; given\nq ; right 0")
        self.lasts_not(
            "p ; given\np ; left 0", "p ; given\np ; right 0", "not p ; given\np ; left 0",
            "false ; given\np ; left 0",
        )
        self.lasts_not("all X p ; given\np ; right 0", "f(a) ; given\np ; left 0", "not (p and q) ; given\np ; left 0")
        self.last(((0, "given", ("is", "and", ("a", "b")), ()), (0, "left", P, (0,))), False)

    def test_either(self):
        self.lasts("not p ; given\n((p and q) or not p) ; either 0")
        self.lasts_not(
            "p ; given\n(q or r) ; either 0", "p ; given\n(p and q) ; either 0", "p ; given\n(p then q) ; either 0",
        )
        self.lasts_not(
            "p ; given\np ; either 0", "p ; given\n((p or q) or r) ; either 0", "(p or q) ; given\np ; either 0",
        )
        self.lasts_not("p ; given\nnot p ; either 0", "p ; given\nfalse ; either 0", "p ; given\nsome X p ; either 0")

    def test_cases(self):
        first, second = "| p ; guess\n| r ; again 1\n", "| q ; guess\n| r ; again 1\n"
        for ahead, last in (
            ("(p and q)", "r ; cases 0 2 4"), ("(p then q)", "r ; cases 0 2 4"), ("(q or p)", "r ; cases 0 2 4"),
            ("(p or q)", "r ; cases 0 4 2"), ("(p or q)", "q ; cases 0 2 4"), ("(p or q)", "r ; cases 0 2 2"),
            ("(p or q)", "r ; cases 0 4 4"), ("(p or q)", "r ; cases 1 2 4"), ("p", "r ; cases 0 2 4"),
            ("(p or s)", "r ; cases 0 2 4"), ("(s or q)", "r ; cases 0 2 4"), ("(p or q)", "r ; cases 0 3 4"),
            ("(p or q)", "r ; cases 0 2 5"), ("not (p or q)", "r ; cases 0 2 4"), ("(p or q)", "not r ; cases 0 2 4"),
        ):
            self.lasts_not(ahead + " ; given\nr ; given\n" + first + second + last)
        ahead, last = "(p or q) ; given\nr ; given\n", "r ; cases 0 2 4"
        self.lasts(ahead + first + second + last)
        for other in ("| p ; case c\n", "| p ; case\n"):
            self.lasts_not(ahead + other + "| r ; again 1\n" + second + last)
            self.lasts_not(ahead + first + other.replace("p", "q") + "| r ; again 1\n" + last)
        self.lasts_not(ahead + "| ; new c\n| r ; again 1\n" + second + last)
        self.lasts_not(
            ahead + "| p ; guess\n| s ; again 1\n" + second + last,
            ahead + first + "| q ; guess\n| s ; any 0\n" + last,
        )
        self.lasts_not(
            ahead + "p ; guess0\nr ; again 1\n" + second + last, ahead + first + "q ; again 0\nr ; again 1\n" + last,
        )

    def test_then(self):
        self.lasts_not(
            "| p ; guess\n(q then p) ; then 0", "| p ; guess\n(p then q) ; then 0", "| p ; guess\n(p and p) ; then 0",
        )
        self.lasts_not("| p ; guess\n(p or p) ; then 0", "| p ; guess\np ; then 0", "| p ; case c\n(p then p) ; then 0")
        self.lasts_not("| p ; guess\n| q ; any 0\n(q then p) ; then 0", "| ; new c\n| p ; any 0\n(p then p) ; then 0")
        self.lasts_not(
            "p ; given\n(p then p) ; then 0", "| p ; guess\n| (p then p) ; then 0",
            "| p ; guess\n| q ; any 0\n(p then p) ; then 0",
        )

    def test_a_box_that_ends_with_a_box_within_it(self):
        inner = "| p ; guess\n| | q ; guess\n| | r ; any 0\n"
        self.lasts(inner + "(p then p) ; then 0", inner + "| (q then r) ; then 1")
        self.lasts_not(inner + "(p then r) ; then 0", inner + "(p then q) ; then 0", inner + "(q then r) ; then 1")

    def test_use(self):
        self.lasts(
            "((p and q) then not p) ; given\n(p and q) ; given\nnot p ; use 0 1",
            "p ; given\n(p then q) ; given\nq ; use 1 0",
        )
        self.lasts_not("(p then q) ; given\np ; given\nq ; use 1 0", "(p then q) ; given\np ; given\np ; use 0 1")
        self.lasts_not("(p then q) ; given\nq ; given\np ; use 0 1", "(p then q) ; given\nr ; given\nq ; use 0 1")
        self.lasts_not("(p and q) ; given\np ; given\nq ; use 0 1", "(p or q) ; given\np ; given\nq ; use 0 1")
        self.lasts_not("(p then q) ; given\np ; given\nr ; use 0 1", "(p then q) ; given\nnot p ; given\nq ; use 0 1")

    def test_deny(self):
        self.lasts_not(
            "| false ; guess\nnot p ; deny 0", "| p ; guess\nnot p ; deny 0", "| false ; guess\nfalse ; deny 0",
        )
        self.lasts_not("| not p ; guess\n| false ; any 0\np ; deny 0", "| p ; guess\n| q ; any 0\nnot p ; deny 0")
        self.lasts_not(
            "| p ; case c\n| false ; any 0\nnot p ; deny 0", "| p ; guess\n| not false ; any 0\nnot p ; deny 0",
        )
        self.lasts_not(
            "| p ; guess\n| false ; any 0\nnot q ; deny 0", "| p ; guess\n| false ; any 0\n(p then false) ; deny 0",
        )
        self.lasts(
            "| p ; guess\n| false ; any 0\nnot p ; deny 0", "| not p ; guess\n| false ; any 0\nnot not p ; deny 0",
        )

    def test_clash(self):
        self.lasts(
            "not not p ; given\nnot p ; given\nfalse ; clash 1 0",
            "false ; given\nnot false ; given\nfalse ; clash 0 1",
        )
        self.lasts_not("p ; given\nnot p ; given\nfalse ; clash 1 0", "p ; given\nnot q ; given\nfalse ; clash 0 1")
        self.lasts_not("p ; given\nnot p ; given\nq ; clash 0 1", "p ; given\np ; given\nfalse ; clash 0 1")
        self.lasts_not("p ; given\nnot p ; given\nfalse ; clash 0 0", "p ; given\nnot p ; given\nfalse ; clash 1 1")
        self.lasts_not(
            "p ; given\nnot p ; given\nnot false ; clash 0 1", "p ; given\n(p then false) ; given\nfalse ; clash 0 1",
        )

    def test_absurd(self):
        self.lasts(
            "| not p ; guess\n| false ; any 0\np ; absurd 0",
            "| not not p ; guess\n| false ; any 0\nnot p ; absurd 0",
        )
        self.lasts_not(
            "| p ; guess\n| false ; any 0\nnot p ; absurd 0", "| not p ; guess\n| false ; any 0\nq ; absurd 0",
        )
        self.lasts_not(
            "| not p ; guess\np ; absurd 0", "| not p ; guess\n| p ; any 0\np ; absurd 0",
            "| p ; guess\n| false ; any 0\np ; absurd 0",
        )
        self.lasts_not(
            "| not p ; case c\n| false ; any 0\np ; absurd 0", "| not p ; guess\n| false ; any 0\nnot p ; absurd 0",
        )

    def test_any(self):
        self.lasts("false ; given\n(p and not p) ; any 0", "false ; given\nf(c) ; any 0")
        self.lasts_not(
            "p ; given\nq ; any 0", "not false ; given\nq ; any 0", "(false and p) ; given\nq ; any 0",
            "p ; given\np ; any 0",
        )
        self.last(((0, "given", ("is", "falsep", ()), ()), (0, "any", P, (0,))), False)

    def test_each(self):
        self.lasts(
            "all X some Y r(X, Y) ; given\nsome Y r(c, Y) ; each 0 c",
            "all X all X f(X) ; given\nall X f(X) ; each 0 c",
        )
        self.lasts_not(
            "all X f(X) ; given\nf(b) ; each 0 a", "some X f(X) ; given\nf(a) ; each 0 a",
            "f(a) ; given\nf(a) ; each 0 a",
        )
        self.lasts_not("all X r(X, X) ; given\nr(a, b) ; each 0 a", "all X r(X, b) ; given\nr(a, a) ; each 0 a")
        self.lasts_not("all X all X f(X) ; given\nall X f(c) ; each 0 c", "all X f(X) ; given\nall X f(X) ; each 0 a")
        self.lasts_not(
            "all X (f(X) and all X f(X)) ; given\n(f(a) and all X f(a)) ; each 0 a",
            "not all X f(X) ; given\nf(a) ; each 0 a",
        )
        self.lasts_not("all X f(X) ; given\nnot f(a) ; each 0 a", "all X p ; given\nq ; each 0 a")

    def test_every(self):
        ahead, box = "all X f(X) ; given\n", "| ; new c\n| f(c) ; each 0 c\n"
        self.lasts(ahead + box + "all X f(X) ; every 1", ahead + box + "all Zz f(Zz) ; every 1")
        self.lasts_not(
            ahead + box + "some X f(X) ; every 1", ahead + box + "all X f(c) ; every 1",
            ahead + box + "f(c) ; every 1",
        )
        self.lasts_not(
            ahead + box + "all X not f(X) ; every 1", ahead + box + "all X g(X) ; every 1",
            ahead + box + "all X f(a) ; every 1",
        )
        self.lasts_not(ahead + box + "not all X f(X) ; every 1", ahead + box + "all X all X f(X) ; every 1")
        for opening in (
            "| f(c) ; case c\n", "| f(c) ; guess\n", "| f(c) ; guess c\n", "| ; new\n", "| ; new d\n",
            "| ; new c c\n", "| ; new c 0\n", "| ; new 0\n",
        ):
            self.lasts_not(ahead + opening + "| f(c) ; each 0 c\nall X f(X) ; every 1")
        self.lasts_not(ahead + "| ; new c\nall X f(X) ; every 1", "| ; new c\nall X p ; every 0")
        self.lasts_not(
            ahead + "| ; new c\n| f(a) ; each 0 a\nall X f(X) ; every 1",
            ahead + "| ; new c\n| p ; any 0\nall X f(X) ; every 1",
        )

    def test_every_where_the_name_stands_in_the_statement(self):
        box = "| ; new c\n| r(c, c) ; any 0\n"
        self.lasts(box + "all X r(X, X) ; every 0")
        self.lasts_not(
            box + "all X r(X, c) ; every 0", box + "all X r(c, X) ; every 0", box + "all X r(c, c) ; every 0",
        )
        self.lasts_not("| ; new c\n| (f(c) and p) ; any 0\nall X (f(c) and p) ; every 0")

    def test_some(self):
        self.lasts(
            "f(a) ; given\nsome Y f(Y) ; some 0 a", "r(a, a) ; given\nsome X r(a, X) ; some 0 a",
            "f(a) ; given\nsome X f(a) ; some 0 b",
        )
        self.lasts(
            "some Y r(a, Y) ; given\nsome X some Y r(X, Y) ; some 0 a",
            "all X f(X) ; given\nsome X all X f(X) ; some 0 a",
        )
        self.lasts_not(
            "f(a) ; given\nsome X f(X) ; some 0 b", "f(a) ; given\nall X f(X) ; some 0 a",
            "f(a) ; given\nf(a) ; some 0 a",
        )
        self.lasts_not(
            "f(a) ; given\nsome X g(X) ; some 0 a", "r(a, b) ; given\nsome X r(X, X) ; some 0 a",
            "r(a, b) ; given\nsome X r(X, b) ; some 0 b",
        )
        self.lasts_not(
            "not f(a) ; given\nsome X f(X) ; some 0 a", "f(a) ; given\nnot some X f(X) ; some 0 a",
            "some X f(X) ; given\nsome X f(X) ; some 0 a",
        )

    def test_one(self):
        ahead, box = "some X f(X) ; given\np ; given\n", "| f(c) ; case c\n| p ; again 1\n"
        self.lasts(ahead + box + "p ; one 0 2")
        self.lasts_not(
            ahead + box + "q ; one 0 2", ahead + box + "p ; one 1 2", ahead + box + "f(c) ; one 0 2",
            ahead + box + "not p ; one 0 2",
        )
        for other in ("all X f(X)", "f(c)", "not some X f(X)", "some X g(X)", "some X not f(X)", "f(a)", "p"):
            self.lasts_not(other + " ; given\np ; given\n" + box + "p ; one 0 2")
        for opening in (
            "| f(c) ; guess\n", "| f(c) ; guess c\n", "| f(a) ; case c\n", "| f(c) ; case d\n", "| f(c) ; case\n",
            "| g(c) ; case c\n",
            "| f(c) ; case c c\n", "| f(c) ; case c 0\n", "| f(c) ; case 0\n", "| ; new c\n",
            "| some X f(X) ; case c\n",
        ):
            self.lasts_not(ahead + opening + "| p ; again 1\np ; one 0 2")
        self.lasts_not(ahead + "| f(c) ; case c\np ; one 0 2", ahead + "| f(c) ; case c\nf(c) ; one 0 2")
        self.lasts_not(ahead + "| f(c) ; case c\n| q ; any 0\np ; one 0 2")

    def test_one_where_the_name_stands_in_the_statement_or_in_the_some(self):
        self.lasts_not("some X f(X) ; given\n| f(c) ; case c\n| g(c) ; any 0\ng(c) ; one 0 1")
        self.lasts_not("some X r(X, c) ; given\n| r(c, c) ; case c\n| p ; any 0\np ; one 0 1")
        self.lasts_not("some X f(c) ; given\n| f(c) ; case c\n| p ; any 0\np ; one 0 1")
        self.lasts("some X r(X, X) ; given\n| r(c, c) ; case c\n| p ; any 0\np ; one 0 1")
        self.lasts("some X r(X, a) ; given\n| r(c, a) ; case c\n| f(a) ; any 0\nf(a) ; one 0 1")

    def test_a_some_that_stands_behind_its_case(self):
        self.lasts("| f(c) ; case c\n| p ; any 0\nsome X f(X) ; any 0\np ; one 2 0")

    def test_another_rule(self):
        for rule in ("nonsuch", "agai", "againn", "and", "or", "not", "all", "false", "is", "a", "line", "box", "name"):
            self.lasts_not(
                "p ; given\np ; " + rule + " 0", "p ; given\np ; " + rule, "| p ; guess\n| p ; " + rule + " 0",
            )
        for rule in ("", "Again", "again ", "AGAIN", " "):
            self.last(((0, "given", P, ()), (0, rule, P, (0,))), False)
        for rule, lines in DERIVATIONS:
            if rule != "any":
                for other in EACH_RULE:
                    paths = boxes(lines)
                    changed = with_last(lines, rule=other)
                    wanted = plainly_follows(changed, paths, len(lines) - 1)
                    self.assertIs(follows(changed, paths, len(lines) - 1), wanted)


class Refs(Asking):
    def test_too_few_and_too_many(self):
        for rule, lines in DERIVATIONS:
            refs = lines[-1][3]
            for wrong in (
                refs + (0,), refs + refs[:1], (0,) + refs, refs[:-1], refs[1:], refs + ("c",), refs + (None,),
                ("e",) + refs,
            ):
                if len(wrong) != len(refs):
                    self.last(with_last(lines, refs=wrong), False)

    def test_no_number_where_a_line_or_box_is_wanted(self):
        for rule, lines in DERIVATIONS:
            refs = lines[-1][3]
            for place in range(len(refs)):
                if place not in NAME_PLACES.get(rule, ()):
                    for wrong in NO_NUMBERS + (-1, -len(lines), len(lines) - 1, len(lines), 10000, -10000):
                        self.last(with_last(lines, refs=with_one(refs, place, wrong)), False)

    def test_a_truth_is_no_number_though_it_is_like_one(self):
        for text in ("p ; given\np ; again 0", "q ; given\np ; given\np ; again 1"):
            lines = read_lines(text)
            self.last(with_last(lines, refs=(bool(lines[-1][3][0]),)), False)
        lines = read_lines("p ; given\n| p ; guess\n(p then p) ; then 1")
        self.last(lines, True)
        self.last(with_last(lines, refs=(True,)), False)

    def test_a_number_from_the_end_is_none(self):
        self.last(((0, "given", P, ()), (0, "again", P, (-2,))), False)
        self.last(((0, "given", P, ()), (0, "again", P, (-1,))), False)

    def test_its_own_number_and_one_behind(self):
        lines = read_lines("p ; given\np ; again 1\np ; again 2\np ; again 4\np ; given")
        for k in (1, 2, 3):
            self.asked(lines, k, False)
        lines = read_lines("| p ; guess\n(p then p) ; then 2\n| p ; guess\n(p then p) ; then 2")
        self.asked(lines, 1, False)
        self.asked(lines, 3, True)

    def test_no_name_where_one_is_wanted(self):
        for rule, lines in DERIVATIONS:
            refs = lines[-1][3]
            for place in NAME_PLACES.get(rule, ()):
                for wrong in NO_NAMES:
                    self.last(with_last(lines, refs=with_one(refs, place, wrong)), False)

    def opened_with(self, ref, wanted):
        """Whether every and one follow of boxes that are opened with this ref."""
        self.last(
            (
                (0, "given", P, ()),
                (1, "new", None, (ref,)),
                (1, "again", P, (0,)),
                (0, "every", ("all", "X", P), (1,)),
            ),
            wanted,
        )
        self.last(((0, "given", ("some", "X", P), ()), (1, "case", P, (ref,)), (0, "one", P, (0, 1))), wanted)

    def test_no_name_though_the_statement_would_fit(self):
        self.opened_with("c", True)
        for wrong in ("X", "not", "abcdefghi", "0", ""):
            self.last(((0, "given", P, ()), (0, "some", ("some", "X", P), (0, wrong))), False)
            self.last(((0, "given", ("all", "X", P), ()), (0, "each", P, (0, wrong))), False)
            self.opened_with(wrong, False)
        for wrong in (None, True, 0, ["c"], ("c",), 1.5):
            self.opened_with(wrong, False)

    def test_a_line_that_is_not_seen(self):
        """Each premise in a box that was left, in a box within it, or in another box."""
        for rule, lines in DERIVATIONS:
            for place, ref in enumerate(lines[-1][3]):
                if type(ref) is int and lines[ref][1] == "given":
                    premise = lines[ref][2]
                    last = with_one(lines[-1][3], place, len(lines) - 1)
                    boxed = lines[:-1] + ((1, "guess", premise, ()),)
                    self.last(boxed + ((0,) + lines[-1][1:3] + (last,),), False)
                    self.last(boxed + ((1,) + lines[-1][1:3] + (last,),), True)
                    self.last(boxed + ((1, "guess", P, ()), (1,) + lines[-1][1:3] + (last,)), False)
                    deeper = lines[:-1] + ((1, "guess", P, ()), (2, "guess", premise, ()))
                    self.last(deeper + ((1,) + lines[-1][1:3] + (with_one(last, place, len(lines)),),), False)
                    self.last(deeper + ((2,) + lines[-1][1:3] + (with_one(last, place, len(lines)),),), True)

    def test_a_box_that_still_stands(self):
        self.lasts_not("| p ; guess\n| (p then p) ; then 0", "| p ; guess\n| | q ; guess\n| | (p then p) ; then 0")
        self.lasts_not("| false ; guess\n| not false ; deny 0", "| not p ; guess\n| false ; any 0\n| p ; absurd 0")
        self.lasts_not(
            "p ; given\n| ; new c\n| p ; again 0\n| all X p ; every 1",
            "some X p ; given\n| p ; case c\n| p ; one 0 1",
        )
        self.lasts_not("(p or p) ; given\n| p ; guess\n| p ; cases 0 1 1")

    def test_a_box_within_one_that_was_left(self):
        self.lasts_not(
            "| q ; guess\n| | p ; guess\n(p then p) ; then 1",
            "| q ; guess\n| | p ; guess\n| q ; again 0\n(p then p) ; then 1",
        )
        self.lasts_not("| q ; guess\n| | p ; guess\n| r ; guess\n| (p then p) ; then 1")
        self.lasts(
            "| q ; guess\n| | p ; guess\n| (p then p) ; then 1",
            "| q ; guess\n| | p ; guess\n| | r ; guess\n| | (p then p) ; then 1",
        )
        self.lasts(
            "| p ; guess\n| q ; guess\n| (p then p) ; then 0",
            "| p ; guess\n| q ; guess\n| | r ; guess\n| | (p then p) ; then 0",
        )

    def test_a_line_that_opens_no_box(self):
        self.lasts_not("p ; given\n(p then p) ; then 0", "| p ; guess\n| p ; again 0\n(p then p) ; then 1")
        self.lasts_not("| false ; guess\n| false ; again 0\nnot false ; deny 1", "p ; guess0\n(p then p) ; then 0")

    def test_a_line_of_the_rule_new_where_a_statement_is_wanted(self):
        for statement in (
            None, P, ("and", P, P), ("then", P, P), ("not", P), FALSE, ("all", "X", P), ("or", P, P),
            ("some", "X", P),
        ):
            new = (1, "new", statement, ("c",))
            for rule, S, refs in (
                ("again", P, (0,)), ("again", statement, (0,)), ("both", ("and", P, P), (0, 0)), ("left", P, (0,)),
                ("right", P, (0,)),
                ("either", ("or", P, P), (0,)), ("use", P, (0, 0)), ("clash", FALSE, (0, 0)), ("any", P, (0,)),
                ("each", P, (0, "c")),
                ("some", ("some", "X", P), (0, "c")), ("some", ("some", "X", statement or P), (0, "d")),
            ):
                if S is not None:
                    self.last((new, (1, rule, S, refs)), False)
            self.last((new, (1, "given0", P, ()), (0, "every", ("all", "X", P), (0,))), True)
            self.last((new, (0, "every", ("all", "X", P), (0,))), False)
            self.last((new, (0, "every", ("all", "X", statement or P), (0,))), False)
            self.last((new, (1, "nonsuch", P, ()), (0, "then", ("then", statement or P, P), (0,))), False)


class Statements(Asking):
    def test_a_statement_that_is_not_closed(self):
        open_one = ("is", "f", ("X",))
        for rule, lines in DERIVATIONS:
            if rule != "new":
                self.last(with_last(lines, statement=open_one), False)
        self.last(((0, "given", open_one, ()),), False)
        self.last(((1, "guess", open_one, ()),), False)
        self.last(((1, "case", open_one, ("c",)),), False)
        self.last(((0, "given", open_one, ()), (0, "again", open_one, (0,))), False)
        self.lasts_not(
            "(f(X) and p) ; given\nf(X) ; left 0", "p ; given\n(p or f(X)) ; either 0", "false ; given\nf(X) ; any 0",
        )
        self.lasts_not("| f(X) ; guess\n(f(X) then f(X)) ; then 0", "all Y r(X, Y) ; given\nr(X, a) ; each 0 a")
        self.lasts_not(
            "r(a, X) ; given\nsome Y r(Y, X) ; some 0 a", "| ; new c\n| r(c, X) ; any 0\nall Y r(Y, X) ; every 0",
        )
        self.lasts_not("f(X) ; given\n(all X f(X) or f(X)) ; either 0")

    def test_from_one_that_is_not_closed_something_closed_follows(self):
        self.lasts("(f(X) and p) ; given\np ; right 0", "(f(X) then p) ; given\nf(X) ; given\np ; use 0 1")
        self.lasts("f(X) ; given\nnot f(X) ; given\nfalse ; clash 0 1")

    def test_none_though_the_rule_is_not_new(self):
        for rule, lines in DERIVATIONS:
            if rule != "new":
                self.last(with_last(lines, statement=None), False)
        self.last(((0, "nonsuch", None, ()),), False)

    def test_not_none_though_the_rule_is_new(self):
        for rule, lines in DERIVATIONS:
            if rule == "new":
                for statement in (P, FALSE, ("is", "f", ("c",)), ("is", "f", ("X",))):
                    self.last(with_last(lines, statement=statement), False)

    def test_a_premise_that_is_none(self):
        for rule, lines in DERIVATIONS:
            for ref in lines[-1][3]:
                if type(ref) is int and lines[ref][1] != "new":
                    level, opening, statement, refs = lines[ref]
                    self.last(with_one(lines, ref, (level, opening, None, refs)), False)

    def test_a_box_whose_end_is_none(self):
        for last in (
            (0, "then", ("then", P, P), (0,)), (0, "deny", ("not", P), (0,)), (0, "every", ("all", "X", P), (0,)),
            (0, "absurd", P, (0,)),
        ):
            for opening in ((1, "guess", P, ()), (1, "guess", ("not", P), ()), (1, "new", None, ("c",))):
                self.last((opening, (1, "again", None, (0,)), last), False)

    def test_lines_ahead_that_do_not_follow(self):
        self.lasts(
            "p ; nonsuch\np ; again 0", "(p and q) ; again 7\np ; left 0",
            "q ; any 0\n| p ; guess 5\n| q ; left 0\n(p then q) ; then 1",
        )
        self.lasts(
            "f(c) ; given\n| ; new c\n| f(c) ; again 0\nall X f(X) ; every 1",
            "f(c) ; given\nsome X f(X) ; given\n| f(c) ; case c\n| p ; any 0\np ; one 1 2",
        )


class OtherPaths(Asking):
    """The paths may be of lines that are other than these in line k's rule, statement and refs."""

    def test_a_line_in_the_place_of_one_that_opens_none(self):
        ahead = "p ; given\n| q ; guess\n| q ; again 1\n"
        told = boxes(read_lines(ahead + "r ; nonsuch"))
        for last, wanted in (
            ("p ; again 0", True), ("q ; again 1", False), ("q ; again 2", False), ("(q then q) ; then 1", True),
            ("p ; given", False),
            ("p ; guess", True), ("; new c", True), ("p ; case c", True), ("p ; nonsuch", False), ("; new 0", False),
            ("p ; guess 0", False),
        ):
            self.assertIs(follows(read_lines(ahead + last), told, 3), wanted, last)

    def test_a_line_in_the_place_of_one_that_opens(self):
        told = boxes(read_lines("p ; given\n| q ; guess\n| r ; guess"))
        ahead = "p ; given\n| q ; guess\n"
        for last, wanted in (("| p ; again 0", True), ("| q ; again 1", False), ("| (q then q) ; then 1", True)):
            self.assertIs(follows(read_lines(ahead + last), told, 2), wanted, last)


class Mutated(Asking):
    def test_lines_changed_by_chance(self):
        """Parts of the derivations' lines are set into one another; what follows is told by the plain way, too."""
        chance = random.Random(41)
        statements = [line[2] for rule, lines in DERIVATIONS for line in lines] + [("is", "f", ("X",)), None]
        refs = [line[3] for rule, lines in DERIVATIONS for line in lines]
        single = (0, 1, 2, 3, 4, 5, True, None, "c", "d", "a", "X")
        counts = {True: 0, False: 0}
        for often in range(60000):
            lines = list(chance.choice(DERIVATIONS)[1])
            for more in range(chance.choice((1, 1, 2, 3))):
                k = chance.randrange(len(lines))
                level, rule, statement, own = lines[k]
                kind = chance.randrange(6)
                if kind == 0:
                    rule = chance.choice(EACH_RULE)
                elif kind == 1:
                    statement = chance.choice(statements)
                elif kind == 2:
                    own = chance.choice(refs)
                elif kind == 3:
                    own = with_one(own, chance.randrange(len(own)), chance.choice(single)) if own else (0,)
                elif kind == 4:
                    level = chance.choice((0, 1, 2))
                lines[k] = (level, rule, statement, own)
                if kind == 5:
                    lines.insert(k, chance.choice(chance.choice(DERIVATIONS)[1]))
            self.compare(tuple(lines), counts)
        self.assertGreater(min(counts.values()), 10000)

    def compare(self, lines, counts):
        try:
            paths = boxes(lines)
        except NoBox:
            return
        for k in range(len(lines)):
            wanted = plainly_follows(lines, paths, k)
            counts[wanted] += 1
            self.assertIs(follows(lines, paths, k), wanted, (lines, k))


class NothingChanged(unittest.TestCase):
    def test_handed_in_stays_and_asked_twice_is_the_same(self):
        for rule, derivation in DERIVATIONS:
            lines = list(derivation)
            paths = boxes(lines)
            ahead = repr((lines, paths))
            first = [follows(lines, paths, k) for k in range(len(lines))]
            self.assertEqual([follows(lines, paths, k) for k in reversed(range(len(lines)))], first[::-1])
            self.assertEqual(repr((lines, paths)), ahead)

    def test_what_is_changed_later_changes_the_answer_anew(self):
        lines = list(read_lines("f(a) ; given\n| ; new c"))
        paths = boxes(lines)
        self.assertIs(follows(lines, paths, 1), True)
        lines[0] = (0, "given", ("is", "f", ("c",)), ())
        self.assertIs(follows(lines, paths, 1), False)


if __name__ == "__main__":
    unittest.main()
