import unittest

from questions import QUESTIONS, questions_by_chance
from samples import CHAIN_RULES, chain

from boxproof.answers import answer
from boxproof.checker import lets_by
from boxproof.desk import said
from boxproof.linetexts import lines_text, read_lines
from boxproof.texts import read, written
from boxproof.worldtexts import read_world, world_text

NO = "no question\n"


def asked(givens, goal, most):
    rows = [f"given {written(A)}\n" for A in givens] + [f"goal {written(goal)}\n"]
    return "".join(rows) + (f"names {most}\n" if most is not None else "")


def answered(givens, goal, most):
    kind, what = answer(givens, goal, most)
    if kind == "derived":
        return "derived\n" + lines_text(what)
    return "none\n" + world_text(what) if kind == "none" else "far\n"


class Answered(unittest.TestCase):
    def test_row_by_row(self):
        self.assertEqual(said("goal p\n"), "none\nthings 1\n")
        self.assertEqual(said("given p\ngoal f(a)\n"), "none\nthings 1\na is 0\np\n")
        self.assertEqual(said("given f(b)\ngiven r(b, a)\ngoal f(a)\n"), "none\nthings 2\na is 0\nb is 1\nf 1\nr 1 0\n")
        self.assertEqual(said("given all X some Y r(X, Y)\ngoal p\n"), "far\n")
        told = said("given p\ngiven q\ngoal p\n")
        self.assertEqual(told.split("\n")[:3], ["derived", "p ; given", "q ; given"])
        self.assertTrue(told.endswith("\n") and not told.endswith("\n\n"))
        self.assertTrue(told.split("\n")[-2].startswith("p ; "))

    def test_told_questions(self):
        for givens, goal, most, end in QUESTIONS:
            self.assertEqual(said(asked(givens, goal, most)), answered(givens, goal, most))
            self.assertEqual(said(asked(givens, goal, None)), answered(givens, goal, 8))

    def test_questions_by_chance(self):
        kinds = {}
        for givens, goal, most in questions_by_chance(72, 800):
            told = said(asked(givens, goal, most))
            self.assertEqual(told, answered(givens, goal, most))
            first, feed, rest = told.partition("\n")
            kinds[first] = kinds.get(first, 0) + 1
            if first == "derived":
                self.assertTrue(lets_by(givens, goal, read_lines(rest)))
                self.assertEqual(("derived", read_lines(rest)), answer(givens, goal, most))
            elif first == "none":
                self.assertEqual(("none", read_world(rest)), answer(givens, goal, most))
            else:
                self.assertEqual((first, rest), ("far", ""))
        self.assertEqual(sorted(kinds), ["derived", "far", "none"])

    def test_no_given(self):
        self.assertTrue(said("goal (p or not p)").startswith("derived\n"))
        self.assertTrue(said("goal p").startswith("none\n"))

    def test_givens_in_this_order(self):
        told = said("given r\ngoal p\ngiven q\nnames 3\ngiven p\ngiven q\n")
        self.assertEqual(told.split("\n")[1:5], ["r ; given", "q ; given", "p ; given", "q ; given"])

    def test_rows_in_any_order(self):
        wanted = said("given p\ngiven q\ngoal (q and p)\nnames 5\n")
        self.assertTrue(wanted.startswith("derived\np ; given\nq ; given\n"))
        for text in (
            "goal (q and p)\ngiven p\ngiven q\nnames 5\n", "names 5\ngoal (q and p)\ngiven p\ngiven q\n",
            "given p\nnames 5\ngoal (q and p)\ngiven q\n", "names 5\ngiven p\ngoal (q and p)\ngiven q\n",
        ):
            self.assertEqual(said(text), wanted)

    def test_blanks_and_rows_of_nothing(self):
        wanted = said("given (p and q)\ngoal q\nnames 12\n")
        for text in (
            "given (p and q)\ngoal q\nnames 12", "   given (p and q)\n goal q\n  names 12\n",
            "given (p and q)   \ngoal q \nnames 12  \n", "given    (p and q)\ngoal  q\nnames   12\n",
            "\n\ngiven (p and q)\n\n   \ngoal q\n \nnames 12\n\n\n", "given ( p  and q )\ngoal q\nnames 12\n   ",
            "  given   (p   and q)  \n\n  goal   q  \n  names   12  ", "given (p and q)\ngoal q\nnames 12\n\n",
        ):
            self.assertEqual(said(text), wanted)

    def test_how_many_names(self):
        somes = "".join(f"given some X f{k}(X)\n" for k in range(12))
        for most in range(1, 41):
            wanted = "none\nthings 12\n" if most >= 12 else "far\n"
            self.assertTrue(said(somes + f"goal p\nnames {most}\n").startswith(wanted))
        for many in (7, 8, 9, 10):
            rows = "".join(f"given some X f{k}(X)\n" for k in range(many))
            self.assertEqual(said(rows + "goal p").startswith("none\n"), many <= 8)
        rows = "".join(f"given some X f{k}(X)\n" for k in range(40))
        self.assertTrue(said(rows + "goal p\nnames 40").startswith("none\nthings 40\n"))
        self.assertEqual(said(rows + "goal p\nnames 39"), "far\n")

    def test_words_of_rows_within_statements(self):
        self.assertTrue(said("given (given and goal(names))\ngoal goal(names)\n").startswith("derived\n"))
        self.assertEqual(said("goal goal"), "none\nthings 1\n")
        self.assertEqual(said("given given\ngoal names"), "none\nthings 1\ngiven\n")
        self.assertEqual(said("goal done(far)"), "none\nthings 1\nfar is 0\n")

    def test_a_given_twice(self):
        self.assertEqual(said("given p\ngiven p\ngoal p\n").split("\n")[1:3], ["p ; given", "p ; given"])

    def test_forty_givens_and_thirty_deep(self):
        rows = ["given p0\n"] + [f"given (p{k} then p{k + 1})\n" for k in range(39)]
        self.assertTrue(said("".join(rows) + "goal p39\n").startswith("derived\n"))
        for rule in CHAIN_RULES:
            text = written(chain(rule, 30))
            self.assertTrue(said(f"given {text}\ngoal {text}\n").startswith("derived\n"))

    def test_the_same_each_time(self):
        texts = [asked(givens, goal, most) for givens, goal, most, end in QUESTIONS] + ["", "goal p\ngoal p"]
        first = [said(text) for text in texts]
        self.assertEqual([said(text) for text in reversed(texts)], first[::-1])


class NoQuestion(unittest.TestCase):
    def refuse(self, text):
        with self.subTest(text=text):
            self.assertEqual(said(text), NO)

    def test_no_goal_or_two(self):
        for text in ("", "\n", "   ", "\n \n\n", "given p", "given p\nnames 3\n", "names 3"):
            self.refuse(text)
        for text in ("goal p\ngoal p\n", "goal p\ngiven p\ngoal q\n", "goal p\nnames 3\ngoal p"):
            self.refuse(text)

    def test_names(self):
        wrong = (
            "0", "00", "41", "50", "99", "100", "040", "08", "01", "1000", "12345", "+8", "-8", "-1", "8.", "8.0", "8 8",
            "8 9", "4 0", "1,2", "x", "p", "eight", "8x", "x8", "(8)", "0x8", "1e1", "8\t", "\t8", "8_0", "'8'", "40 0",
        )
        for text in wrong:
            self.refuse(f"given p\ngoal p\nnames {text}\n")
            self.refuse(f"names {text}\ngoal p")
        for text in ("names 3\nnames 3\ngoal p", "names 3\ngoal p\nnames 4\n", "goal p\nnames 8\n\nnames 8"):
            self.refuse(text)

    def test_another_row(self):
        for row in (
            "p", "known p", "Given p", "GOAL p", "givens p", "give p", "goals p", "name 3", "Names 3", "givenp", "given(p)",
            "goalp", "names3", "(given p)", "given: p", "given;p", "derived", "none", "far", "no question", "# p", "-", ";",
            "p ; given", "| p ; guess", "given,p", "\tgiven p", "given\tp", "given\t p", "names\t3", "\t", " \t ", "\t\t",
        ):
            for text in (f"{row}\ngoal p\n", f"goal p\n{row}\n", f"goal p\n{row}", f"given p\n{row}\ngoal p\n"):
                self.refuse(text)
        for row in ("goal\tp", "goal\t", "\tgoal p", "goalp", "goal(p)", "Goal p"):
            self.refuse(row)
            self.refuse(f"given p\n{row}\n")

    def test_nothing_behind_the_word(self):
        for row in ("given", "given ", "given    ", "  given", "names", "names ", "  names  "):
            self.refuse(f"{row}\ngoal p\n")
            self.refuse(f"goal p\n{row}")
        for row in ("goal", "goal ", "   goal   ", "goal\np", "given p\ngoal\n"):
            self.refuse(row)

    def test_no_statement(self):
        for text in (
            "p q", "(p", "p)", "(p and q", "(p and)", "p and q", "not", "all X", "all x f(x)", "some f(X)", "P", "X",
            "f()", "f(a,)", "f(a b)", "f(a, b, c, d)", "abcdefghi", "f(abcdefghi)", "and", "0", "p.", "p;", "f[a]", "p\tq",
            "(p then q) r", "(p or q or r)", "((p or q))", "(p)", "f (a", "p_q", "f(0)", "all all f(X)", "false(a)", "f(not)",
        ):
            self.refuse(f"goal {text}\n")
            self.refuse(f"given {text}\ngoal p\n")
            self.refuse(f"given p\ngiven {text}\ngoal p\n")

    def test_statements_that_are_not_closed(self):
        for text in ("f(X)", "r(a, X)", "all X r(X, Y)", "(all X f(X) and f(X))", "not f(Z)", "some Y f(X)"):
            self.refuse(f"goal {text}\n")
            self.refuse(f"given {text}\ngoal p\n")
            self.refuse(f"given p\ngiven {text}\ngoal p")

    def test_more_than_forty_deep(self):
        for rule in CHAIN_RULES:
            for deepest in (41, 42, 100):
                text = written(chain(rule, deepest))
                self.refuse(f"goal {text}\n")
                self.refuse(f"given {text}\ngoal p\n")
        self.refuse("goal " + "not " * 5000 + "p")
        self.refuse("goal " + "(" * 5000 + "p")

    def test_all_else_is_right(self):
        """What is no question is no question, though it would be one but for a single row."""
        for text in ("given p\ngoal p\nwhat p\n", "given p\ngoal p\nnames 41\n", "given f(X)\ngiven p\ngoal p\n"):
            self.refuse(text)
        self.assertNotEqual(said("given p\ngoal p\n"), NO)


class StatementsThatAreOnes(unittest.TestCase):
    def test_letters_that_are_not_used(self):
        self.assertEqual(said("goal all X f"), said("goal all Y f"))
        self.assertTrue(said("given all X f\ngoal f").startswith("derived\n"))

    def test_what_is_asked_is_what_is_read(self):
        for givens, goal, most, end in QUESTIONS:
            for A in givens + (goal,):
                self.assertEqual(read(written(A)), A)


if __name__ == "__main__":
    unittest.main()
