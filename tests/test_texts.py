import itertools
import re
import unittest

from samples import CHAIN_RULES, FALSE, FORMS, P, PX, STATEMENTS, chain, small_statements

from boxproof.errors import BoxError, NoBox, NoLines, NoName, NoStatement, NotShut, NoWorld
from boxproof.statements import deep
from boxproof.texts import read, written

SEVEN = ("not", "and", "or", "then", "all", "some", "false")
NAME = re.compile("[a-z][a-z0-9]{0,7}")
LETTER = re.compile("[A-Z][a-z0-9]{0,7}")


def runs(text):
    return re.findall("[A-Za-z0-9]+|[(),]", text)


def fit(A):
    """Whether it is a statement by point 12, told apart from how the program does it."""
    if type(A) is not tuple or len(A) == 0:
        return False
    if A[0] == "is":
        return len(A) == 3 and word_fits(A[1]) and terms_fit(A[2])
    if A[0] in ("all", "some"):
        return len(A) == 3 and LETTER.fullmatch(A[1]) is not None and fit(A[2])
    size = {"false": 1, "not": 2, "and": 3, "or": 3, "then": 3}
    return size.get(A[0]) == len(A) and all(fit(part) for part in A[1:])


def word_fits(text):
    return type(text) is str and NAME.fullmatch(text) is not None and text not in SEVEN


def terms_fit(terms):
    if type(terms) is not tuple or len(terms) > 3:
        return False
    return all(word_fits(term) or LETTER.fullmatch(term) is not None for term in terms)


class Written(unittest.TestCase):
    def test_each_form_sign_by_sign(self):
        for statement, text, how_deep, names, free in FORMS:
            self.assertEqual(written(statement), text)

    def test_the_examples_of_the_document(self):
        man = ("is", "man", ("X",))
        mortal = ("is", "mortal", ("X",))
        self.assertEqual(written(("all", "X", ("then", man, mortal))), "all X (man(X) then mortal(X))")
        self.assertEqual(written(("not", P)), "not p")
        loves = ("is", "loves", ("tom", "Y2"))
        self.assertEqual(written(("and", P, ("not", loves))), "(p and not loves(tom, Y2))")

    def test_none_to_three_terms(self):
        self.assertEqual(written(("is", "w", ())), "w")
        self.assertEqual(written(("is", "w", ("a",))), "w(a)")
        self.assertEqual(written(("is", "w", ("a", "X"))), "w(a, X)")
        self.assertEqual(written(("is", "w", ("a", "X", "a"))), "w(a, X, a)")

    def test_two_statements_have_two_texts(self):
        made = small_statements(3)
        self.assertEqual(len(set(made)), len(made))
        self.assertEqual(len(set(written(one) for one in made)), len(made))


class Reading(unittest.TestCase):
    def refuse(self, text):
        with self.subTest(text=text[:60]):
            with self.assertRaises(NoStatement):
                read(text)

    def test_each_form(self):
        for statement, text, how_deep, names, free in FORMS:
            self.assertEqual(read(text), statement)

    def test_what_is_written_is_read_to_the_same(self):
        for statement in small_statements(3):
            found = read(written(statement))
            self.assertEqual(found, statement)
            self.assertTrue(fit(found))

    def test_blanks_more(self):
        for statement, text, how_deep, names, free in FORMS:
            parts = runs(text)
            for blank in (" ", "  ", "       "):
                self.assertEqual(read(blank.join(parts)), statement)
                self.assertEqual(read(blank + blank.join(parts) + blank), statement)
                self.assertEqual(read(blank + text), statement)
                self.assertEqual(read(text + blank), statement)

    def test_no_blanks_where_none_are_needed(self):
        for statement, text, how_deep, names, free in FORMS:
            tight = re.sub("(?<=[(),]) | (?=[(),])", "", text)
            self.assertEqual(read(tight), statement)
        self.assertEqual(read("all X(man(X)then mortal(X))"), read("all X (man(X) then mortal(X))"))
        self.assertEqual(read("not(p and q)"), read("not (p and q)"))
        self.assertEqual(read("((p and q)or(p and q))"), read("((p and q) or (p and q))"))
        self.assertEqual(read("p(a,b,X)"), ("is", "p", ("a", "b", "X")))
        self.assertEqual(read("p ( a , b )"), ("is", "p", ("a", "b")))

    def test_runs_that_run_together(self):
        self.assertEqual(read("notp"), ("is", "notp", ()))
        self.assertEqual(read("not notp"), ("not", ("is", "notp", ())))
        self.assertEqual(read("falsep"), ("is", "falsep", ()))
        for text in ("allX p(X)", "all Xp(X)", "someX p(X)", "(pand q)", "(p andq)", "(pandq)", "(pthenq)", "notX"):
            self.refuse(text)
        self.refuse("notnotnotp")
        self.refuse("all X1Y p")

    def test_runs_are_not_parted_by_their_signs(self):
        for text in ("p0 q", "0p", "0", "pX", "p X", "p(aX)", "p(0a)", "p(0)", "p(1)", "all 1 p", "all X1 2 p"):
            self.refuse(text)

    def test_a_blank_parts_runs(self):
        for text in ("n ot p", "fal se", "p q", "p(a b)", "all X Y p", "(p a nd q)", "p(t om)"):
            self.refuse(text)

    def test_signs_that_no_such_text_has(self):
        allowed = " (),abcdefghijklmnopqrstuvwxyzABCDEFGHIJKLMNOPQRSTUVWXYZ0123456789"
        others = [chr(k) for k in range(32, 127) if chr(k) not in allowed] + ["\n", "\t", "\r", "\v", "\f", "\0"]
        for sign in others:
            self.refuse(sign)
            for text in ("p", "(p and q)", "all X p(X, a)"):
                for k in range(len(text) + 1):
                    self.refuse(text[:k] + sign + text[k:])
                    self.refuse(text[:k] + sign + text[k + 1:])

    def test_nothing_at_all(self):
        self.refuse("")
        self.refuse(" ")
        self.refuse("      ")

    def test_one_of_the_seven_in_the_place_of_a_word_a_name_or_a_letter(self):
        for one in SEVEN:
            self.refuse(one + "(a)")
            self.refuse("p(" + one + ")")
            self.refuse("p(a, " + one + ")")
            self.refuse("p(a, b, " + one + ")")
            self.refuse("all " + one + " p")
            self.refuse("some " + one + " p")
            self.refuse("(p " + one + ")")
            self.refuse("p " + one)
            if one != "false":
                self.refuse(one)
                self.refuse("not " + one)
                self.refuse("(" + one + " and p)")
                self.refuse("(p and " + one + ")")
                self.refuse("all X " + one)
            if one not in ("and", "or", "then"):
                self.refuse("(p " + one + " q)")

    def test_names_and_letters_in_the_places_of_others(self):
        for text in ("all x p", "some tom p(tom)", "all X X", "X", "X(a)", "P(a)", "not X", "(X and p)", "(p and X)"):
            self.refuse(text)
        for joint in ("implies", "And", "AND", "nand", "X", "p", ",", "(", ")", "is", "iff"):
            self.refuse("(p " + joint + " q)")

    def test_brackets(self):
        for text in (
            "(", ")", "()", "p(", "p)", "p()", "p(()", "p( )", "(p)", "((p and q))", "(p and q", "p and q", "p and q)",
            "(p and q and r)", "(p and q))", "(not p)", "not (p)", "(false)", "false()", "false(a)", "all X (p(X))",
            "(all X p)", "p(a)(b)", "p((a))", "p(a, (b))", "p(q(a))", "(p and q)(a)", "all (X) p", "all X, p", ")p(",
        ):
            self.refuse(text)

    def test_commas(self):
        for text in (",", "p,", ",p", "p(,)", "p(a,)", "p(,a)", "p(a,,b)", "p(a b)", "p, q", "(p, q)", "p(a, b,)"):
            self.refuse(text)

    def test_terms(self):
        self.assertEqual(read("p(a, b, c)"), ("is", "p", ("a", "b", "c")))
        for text in ("p(a, b, c, d)", "p(X, X, X, X)", "not p(a, b, c, d)", "p(a, b, c, d, e)"):
            self.refuse(text)
        self.refuse("p(" + ", ".join(["a"] * 5000) + ")")

    def test_eight_signs_and_nine(self):
        self.assertEqual(read("abcdefgh"), ("is", "abcdefgh", ()))
        self.assertEqual(read("p(abcdefg8)"), ("is", "p", ("abcdefg8",)))
        self.assertEqual(read("all Abcdefg8 p(Abcdefg8)"), ("all", "Abcdefg8", ("is", "p", ("Abcdefg8",))))
        for text in (
            "abcdefghi", "abcdefghi(a)", "p(abcdefghi)", "p(Abcdefghi)", "p(a, b, abcdefghi)", "all Abcdefghi p",
            "some Abcdefghi p", "not abcdefghi", "(p and abcdefghi)", "(abcdefghi and p)", "p" * 100000,
        ):
            self.refuse(text)

    def test_more_behind_a_statement(self):
        for statement, text, how_deep, names, free in FORMS:
            for more in ("p", "not", ")", ",", "false", "X", "0", "and q", "and", "(p and q)"):
                self.refuse(text + " " + more)

    def test_cut_off_left_out_put_twice_or_changed(self):
        for statement, text, how_deep, names, free in FORMS:
            parts = runs(text)
            for k in range(len(parts)):
                self.ask(parts[:k])
                self.ask(parts[k + 1:])
                self.ask(parts[:k] + parts[k + 1:])
                self.ask(parts[:k + 1] + parts[k:])
                self.ask(parts[:k] + parts[k + 1:k + 2] + parts[k:k + 1] + parts[k + 2:])
                for other in SEVEN + ("(", ")", ",", "p", "X", "9"):
                    self.ask(parts[:k] + [other] + parts[k + 1:])

    def test_all_short_rows_of_runs(self):
        """Each row of up to five runs is read just where it is a statement's."""
        alphabet = ("p", "X", "(", ")", ",", "not", "and", "all", "false")
        statements = {}
        for one in self.short_statements():
            statements[tuple(runs(written(one)))] = one
        for size in range(6):
            for row in itertools.product(alphabet, repeat=size):
                try:
                    found = read(" ".join(row))
                except NoStatement:
                    found = None
                self.assertEqual(found, statements.get(row), row)

    def short_statements(self):
        """All statements of up to five runs over the signs of the test above."""
        by_size = {1: [P, FALSE], 4: [("is", "p", (term,)) for term in ("p", "X")]}
        for size in range(2, 6):
            made = by_size.setdefault(size, [])
            made.extend([("not", one) for one in by_size[size - 1]])
            made.extend([("all", "X", one) for one in by_size.get(size - 2, [])])
        by_size[5].extend([("and", first, second) for first in by_size[1] for second in by_size[1]])
        return [one for made in by_size.values() for one in made]

    def ask(self, row):
        """A row of runs is refused, or read to a statement that is written by this very row."""
        try:
            found = read(" ".join(row))
        except NoStatement:
            return
        self.assertTrue(fit(found), found)
        self.assertEqual(runs(written(found)), row)


class Depth(unittest.TestCase):
    def refuse(self, text):
        with self.assertRaises(NoStatement):
            read(text)

    def test_forty_is_read(self):
        for rule in CHAIN_RULES:
            for length in (1, 2, 39, 40):
                statement = chain(rule, length)
                self.assertEqual(deep(statement), length)
                self.assertEqual(read(written(statement)), statement)

    def test_forty_one_is_refused(self):
        for rule in CHAIN_RULES:
            for length in (41, 42, 60):
                self.refuse(written(chain(rule, length)))

    def test_mixed_rules(self):
        made = PX
        for k in range(39):
            rule = CHAIN_RULES[k % len(CHAIN_RULES)]
            if rule == "not":
                made = ("not", made)
            elif rule in ("all", "some"):
                made = (rule, "X", made)
            else:
                made = (rule, P, made)
        self.assertEqual(read(written(made)), made)
        self.refuse(written(("not", made)))
        self.refuse(written(("or", made, P)))
        self.refuse(written(("some", "Y", made)))

    def test_forty_deep_on_both_sides(self):
        side = chain("not", 39)
        self.assertEqual(read(written(("and", side, side))), ("and", side, side))
        self.refuse(written(("and", ("not", side), side)))
        self.refuse(written(("and", side, ("not", side))))

    def test_false_at_the_bottom(self):
        self.assertEqual(deep(read("not " * 39 + "false")), 40)
        self.refuse("not " * 40 + "false")

    def test_far_deeper(self):
        for often in (1000, 50000):
            self.refuse("not " * often + "p")
            self.refuse("not " * often)
            self.refuse("(" * often)
            self.refuse("(" * often + "p" + " and p)" * often)
            self.refuse("(p and " * often + "p" + ")" * often)
            self.refuse("all X " * often + "p")
            self.refuse("some X " * often + "p(X)")
            self.refuse("(" * often + "p" + ")" * often)
            self.refuse("p" + "(" * often + ")" * often)


class Refusals(unittest.TestCase):
    def test_taken_by_no_statement_and_those_above_it_alone(self):
        texts = ("", "p(", "a\n", "p(a, b, c, d)", "not " * 40 + "p", "not " * 1000 + "p", "(" * 1000)
        for text in texts:
            for taken_as in (NoStatement, BoxError, ValueError):
                with self.assertRaises(taken_as):
                    read(text)
            for other in (NoName, NoWorld, NoBox, NoLines, NotShut):
                try:
                    read(text)
                except BoxError as refusal:
                    self.assertNotIsInstance(refusal, other)


class NothingChanged(unittest.TestCase):
    def test_handed_in_stays_and_asked_twice_is_the_same(self):
        for statement in STATEMENTS:
            ahead = repr(statement)
            text = written(statement)
            found = read(text)
            with self.assertRaises(NoStatement):
                read(text + " " + text)
            self.assertEqual(written(statement), text)
            self.assertEqual(read(text), found)
            self.assertEqual(found, statement)
            self.assertEqual(repr(statement), ahead)


if __name__ == "__main__":
    unittest.main()
