import re
import unittest

from refusals import refused_with
from samples import CHAIN_RULES, FALSE, FORMS, P, PX, Q, chain

from boxproof.errors import NoLines
from boxproof.linetexts import lines_text, read_lines
from boxproof.texts import written

BOTH = ("and", P, Q)

# Each form of row: the line, its text.
ROWS = (
    ((0, "given", P, ()), "p ; given\n"),
    ((1, "guess", P, ()), "| p ; guess\n"),
    ((1, "both", BOTH, (0, 1)), "| (p and q) ; both 0 1\n"),
    ((2, "new", None, ("c0",)), "| | ; new c0\n"),
    ((0, "new", None, ()), "; new\n"),
    ((1, "case", ("is", "p", ("c0",)), ("c0",)), "| p(c0) ; case c0\n"),
    ((0, "cases", FALSE, (0, 10, 9999)), "false ; cases 0 10 9999\n"),
    ((3, "each", ("is", "loves", ("tom", "ann")), (12, "tom")), "| | | loves(tom, ann) ; each 12 tom\n"),
    ((0, "nonsuch", ("not", P), ("a", 0, "b", 1, "c", 2)), "not p ; nonsuch a 0 b 1 c 2\n"),
    ((0, "and", P, ("is",)), "p ; and is\n"),
    ((0, "false", FALSE, (1000,)), "false ; false 1000\n"),
    ((0, "abcdefg8", P, ("abcdefg8",)), "p ; abcdefg8 abcdefg8\n"),
    ((0, "a", PX, ()), "p(X) ; a\n"),
    ((1, "newc", P, ("new",)), "| p ; newc new\n"),
    ((0, "case", ("all", "X", ("then", PX, ("is", "q", ("X",)))), ("c",)), "all X (p(X) then q(X)) ; case c\n"),
)
LINES = tuple(line for line, text in ROWS)
TEXT = "".join(text for line, text in ROWS)


class Written(unittest.TestCase):
    def test_each_form_of_row(self):
        for line, text in ROWS:
            self.assertEqual(lines_text((line,)), text)

    def test_the_examples_of_the_document(self):
        self.assertEqual(lines_text(((1, "both", BOTH, (0, 1)),)), "| (p and q) ; both 0 1\n")
        self.assertEqual(lines_text(((2, "new", None, ("c0",)),)), "| | ; new c0\n")

    def test_many_rows_and_none(self):
        self.assertEqual(lines_text(LINES), TEXT)
        self.assertEqual(lines_text(()), "")


class Reading(unittest.TestCase):
    def refuse(self, *texts):
        for text in texts:
            with self.subTest(text=text[:60]):
                refused_with(self, NoLines, lambda: read_lines(text))

    def test_each_form_of_row(self):
        for line, text in ROWS:
            self.assertEqual(read_lines(text), (line,))
        self.assertEqual(read_lines(TEXT), LINES)

    def test_kinds(self):
        told = read_lines(TEXT)
        self.assertIs(type(told), tuple)
        for line in told:
            self.assertEqual([type(part) for part in line[:2] + line[3:]], [int, str, tuple])
            self.assertIs(type(line), tuple)

    def test_no_lines(self):
        for text in ("", "\n", "   ", "\n\n", "  \n   \n\n "):
            self.assertEqual(read_lines(text), ())

    def test_each_statement_closed_or_not(self):
        for statement, text, how_deep, names, free in FORMS:
            for rule in ("given", "guess", "case"):
                self.assertEqual(read_lines("| " + text + " ; " + rule), ((1, rule, statement, ()),))

    def test_what_is_written_is_read_to_the_same(self):
        for level in (0, 1, 2, 7, 500):
            for refs in ((), (0,), (9999, "c0", 10), ("a", "b")):
                lines = tuple((level, "given", form[0], refs) for form in FORMS) + ((level, "new", None, refs),)
                self.assertEqual(read_lines(lines_text(lines)), lines)

    def test_6000_lines(self):
        lines = tuple((k % 500, "again", chain(CHAIN_RULES[k % 6], 1 + k % 40), (k,)) for k in range(6000))
        self.assertEqual(read_lines(lines_text(lines)), lines)

    def test_blanks_more(self):
        for more in (" ", "  ", "       "):
            for line, text in ROWS:
                row = text[:-1]
                for wider in (
                    more + row, row + more, row.replace(" ", " " + more), row.replace("|", more + "|" + more),
                ):
                    self.assertEqual(read_lines(wider + "\n"), (line,))
                self.assertEqual(read_lines(row.replace(";", more + ";" + more) + "\n"), (line,))

    def test_no_blanks_beside_the_bar_and_the_semicolon(self):
        for line, text in ROWS:
            tight = re.sub(" *([|;]) *", r"\1", text)
            self.assertEqual(read_lines(tight), (line,))
        self.assertEqual(read_lines("||(p and q);both 0 1"), ((2, "both", BOTH, (0, 1)),))
        self.assertEqual(read_lines("||;new c0\n"), ((2, "new", None, ("c0",)),))
        self.assertEqual(read_lines(";new c0\np;given"), ((0, "new", None, ("c0",)), (0, "given", P, ())))

    def test_no_blanks_within_the_statement(self):
        self.assertEqual(read_lines("|p(a,b);again 0"), ((1, "again", ("is", "p", ("a", "b")), (0,)),))

    def test_rows_of_blanks_and_of_nothing(self):
        for more in ("\n", " \n", "     \n", "\n\n   \n"):
            self.assertEqual(read_lines(more + TEXT), LINES)
            self.assertEqual(read_lines(TEXT + more), LINES)
            self.assertEqual(read_lines(TEXT.replace("\n", "\n" + more)), LINES)
        self.assertEqual(read_lines(TEXT + "     "), LINES)

    def test_the_last_line_feed_left_out(self):
        self.assertEqual(read_lines(TEXT[:-1]), LINES)
        for line, text in ROWS:
            self.assertEqual(read_lines(text[:-1]), (line,))

    def test_a_tab(self):
        for line, text in ROWS:
            for k in range(len(text) + 1):
                self.refuse(text[:k] + "\t" + text[k:])
                if text[k:k + 1] == " ":
                    self.refuse(text[:k] + "\t" + text[k + 1:])
        self.refuse("\t", "\t\n", " \t \n", TEXT + "\t", "\t\n" + TEXT)

    def test_other_signs(self):
        for line, text in ROWS:
            for sign in "!\"#$&'*+-./:<=>?@[\\]^_`{}~":
                for k in range(len(text)):
                    self.refuse(text[:k] + sign + text[k:])

    def test_a_rule(self):
        for rule in (
            "a", "z9", "abcdefgh", "a2345678", "not", "and", "or", "then", "all", "some", "false", "is", "things",
        ):
            self.assertEqual(read_lines("p ; " + rule + " 0"), ((0, rule, P, (0,)),))
        for rule in (
            "abcdefghi", "Given", "gIven", "giveN", "G", "0", "0a", "1", "gi_en", "a" * 1000, "X", "(", "a,b", "a(b)",
        ):
            self.refuse("p ; " + rule, "p ; " + rule + " 0", "| p;" + rule + " c")
            self.refuse("; " + rule, TEXT + "p ; " + rule)

    def test_no_rule(self):
        self.refuse("p ;", "p ; ", ";", " ; ", "| ;", "| p ;", "p ; 0", "p ; 0 1", "p ;\ngiven\n")

    def test_refs_that_are_numbers(self):
        for ref in ("0", "1", "9", "10", "100", "999", "1000", "9999"):
            self.assertEqual(read_lines("p ; again " + ref), ((0, "again", P, (int(ref),)),))
        wrong = ("00", "01", "007", "0000", "0001", "10000", "99999", "00000", "+1", "-1", "-0", "1.0", "1,2", "1a", "0x1", "1_0")
        for ref in wrong + ("1" * 5000, "0" * 5000):
            self.refuse("p ; again " + ref, "p ; both 0 " + ref, "p ; both " + ref + " 0", "; new " + ref)

    def test_refs_that_are_names(self):
        for ref in ("a", "c0", "abcdefgh", "is", "new", "nots", "given"):
            self.assertEqual(read_lines("p ; each 0 " + ref), ((0, "each", P, (0, ref)),))
        for ref in (
            "not", "and", "or", "then", "all", "some", "false", "X", "Tom", "tOm", "abcdefghi", "a_b", "a(b)", "p,",
        ):
            self.refuse("p ; each 0 " + ref, "p ; each " + ref + " 0", "; new " + ref, "p ; case " + ref)

    def test_many_refs(self):
        refs = tuple(range(300)) + ("c",) * 300
        self.assertEqual(read_lines(lines_text(((0, "again", P, refs),))), ((0, "again", P, refs),))

    def test_new_with_a_statement_and_another_rule_without_one(self):
        self.refuse("p ; new c", "| p ; new c", "| | false ; new", "X ; new c", "( ; new c", "0 ; new c")
        for rule in ("given", "guess", "case", "again", "news", "newc", "ne", "nonsuch"):
            self.refuse("; " + rule, "| ; " + rule + " c", "|;" + rule + " 0", " | | ; " + rule + " 0 1")

    def test_two_semicolons_or_none(self):
        self.refuse("p", "p given", "p given ;", "| p", "|", "| |", "| | \n", "new c0", "| new c0", "0", "p\n; given")
        self.refuse(
            "p ;; given", "p ; given ;", "p ; given ; given", "; p ; given", "p ; again 0 ; 1", ";;", ";; new c",
            "; ; new c",
        )
        self.refuse("; new c ;", "p ; given\n;\n", ";\np ; given\n")
        self.refuse("p ; given p ; given", "p ; given | p ; given")

    def test_a_bar_elsewhere(self):
        self.refuse("p | ; given", "| p | ; given", "p |; given", "p| ; given", "(p | and q) ; given", "p(|a) ; given")
        self.refuse(
            "p ; | given", "p ; given |", "p ; again | 0", "p ; again 0 |", "p ; again 0|", "; | new c", "; new | c",
        )
        self.refuse("; new c |", "p ;| given", "p ; given|")

    def test_a_text_of_no_statement(self):
        for wrong in (
            "X", "P", "p q", "(p)", "(p and q", "p and q", "all x p", "p(a, b, c, d)", "not", "abcdefghi", "p()", "0",
            ",",
        ):
            self.refuse(wrong + " ; given", "| " + wrong + " ; again 0", wrong + ";case c", TEXT + wrong + " ; given\n")

    def test_forty_deep_and_deeper(self):
        for rule in CHAIN_RULES:
            deepest = chain(rule, 40)
            self.assertEqual(read_lines(written(deepest) + " ; given"), ((0, "given", deepest, ()),))
            self.refuse(written(chain(rule, 41)) + " ; given")
        self.refuse(
            "not " * 50000 + "p ; given", "(" * 50000 + " ; given", "(p and " * 50000 + "p" + ")" * 50000 + ";given",
        )

    def test_far_too_long(self):
        self.refuse(
            "|" * 200000, "| " * 200000, "|" * 200000 + "; given", "p ; given" + ";" * 200000,
            "p" * 200000 + " ; given",
        )
        self.refuse(TEXT * 100 + "p", "p ; " + "a" * 200000, "p ; again " + "X " * 200000, "p ; again " + "1" * 200000)

    def test_one_wrong_row_among_others(self):
        for k in range(len(ROWS)):
            rows = [text for line, text in ROWS]
            self.refuse("".join(rows[:k] + ["p ; given 00\n"] + rows[k:]), "".join(rows[:k] + ["p\n"] + rows[k:]))

    def test_two_rows_run_together(self):
        for line, text in ROWS:
            for other, more in ROWS:
                self.refuse(text[:-1] + " " + more, text[:-1] + more)


class NothingChanged(unittest.TestCase):
    def test_handed_in_stays_and_asked_twice_is_the_same(self):
        lines = list(LINES)
        ahead = repr(lines)
        told = read_lines(TEXT)
        text = lines_text(lines)
        with self.assertRaises(NoLines):
            read_lines(TEXT + "p")
        self.assertEqual(read_lines(TEXT), told)
        self.assertEqual(lines_text(lines), text)
        self.assertEqual(repr(lines), ahead)
        lines.clear()
        self.assertEqual((told, text), (LINES, TEXT))


if __name__ == "__main__":
    unittest.main()
