import re
import unittest

from samples import CHAIN_RULES, FALSE, FORMS, P, PX, PY, STATEMENTS, chain, small_statements

from boxproof.statements import deep, free_in, is_letter, is_name, is_word, names_in, put

SEVEN = ("not", "and", "or", "then", "all", "some", "false")
ALL_SIGNS = [chr(k) for k in range(32, 127) if chr(k) != "%"] + ["\n", "\t"]

NAMES = (
    "a", "z", "m", "a0", "z9", "tom", "c0", "c10", "abcdefgh", "a2345678", "a1b2c3d4", "is", "if", "every",
    "nots", "no", "nott", "an", "ands", "o", "ors", "the", "thens", "al", "alls", "som", "somes", "fals", "falses",
    "not0", "and1", "or2", "then3", "all4", "some5", "false6", "true", "none",
)
LETTERS = (
    "A", "Z", "X", "Y2", "X0", "Xabc", "Abcdefgh", "A2345678", "Not", "And", "Or", "Then", "All", "Some", "False",
)
NEITHER = (
    "", " ", "\n", "\t", "0", "9", "0a", "1X", "aB", "aBc", "abC", "tomT", "XY", "XyZ", "X1Y", "abcdefghi", "a23456789",
    "Abcdefghi", "A23456789", "AB", "a b", " a", "a ", "a\n", "a\t", "\na", "\ta", "X\n", "X\t", "X ", " X", "\nX",
    "abcdefgh\n", "Abcdefgh\n", "abcdefg\n", "Abcdefg\n", "a_b", "_a", "_", "a-b", "a.b", "a(", "(a)", "a,", "a|", "a;",
    "X_", "X'", "{a", "a{", "`a", "a`", "@A", "A@", "[X", "X[", "/a", "a/", "a:", ":a", "not ", " not", "not\n",
    "a" * 100, "A" * 100, "X" + "a" * 5000, "a" + "b" * 5000,
)


class Signs(unittest.TestCase):
    def expect(self, text, name, letter):
        with self.subTest(text=text[:20]):
            self.assertIs(is_name(text), name)
            self.assertIs(is_word(text), name)
            self.assertIs(is_letter(text), letter)

    def test_names_are_names_and_words(self):
        for text in NAMES:
            self.expect(text, True, False)

    def test_letters(self):
        for text in LETTERS:
            self.expect(text, False, True)

    def test_what_is_neither(self):
        for text in NEITHER:
            self.expect(text, False, False)

    def test_the_seven_are_none(self):
        for text in SEVEN:
            self.expect(text, False, False)

    def test_only_the_seven_themselves_are_kept(self):
        for text in SEVEN:
            self.expect(text + "s", True, False)
            self.expect(text + "0", True, False)
            self.expect(text[:-1], True, False)
            self.expect(text[1:], text[1:] not in SEVEN, False)
            self.expect("a" + text, True, False)
            self.expect(text[0].upper() + text[1:], False, True)
            self.expect(text.upper(), False, False)

    def test_each_sign_in_each_place(self):
        for sign in ALL_SIGNS:
            small = "a" <= sign <= "z"
            great = "A" <= sign <= "Z"
            goes_on = small or "0" <= sign <= "9"
            self.expect(sign, small, great)
            self.expect("a" + sign, goes_on and "a" + sign not in SEVEN, False)
            self.expect("A" + sign, False, goes_on)
            self.expect("a" + sign + "b", goes_on, False)
            self.expect("A" + sign + "b", False, goes_on)
            self.expect("abcdefg" + sign, goes_on, False)
            self.expect("Abcdefg" + sign, False, goes_on)
            self.expect("abcdefgh" + sign, False, False)
            self.expect(sign + "bcdefgh", small, great)
            self.expect(sign + "bcdefghi", False, False)

    def test_all_texts_of_two_signs(self):
        for first in ALL_SIGNS:
            for second in ALL_SIGNS:
                text = first + second
                is_one = re.fullmatch("[a-z][a-z0-9]", text) is not None and text not in SEVEN
                self.assertIs(is_name(text), is_one, text)
                self.assertIs(is_word(text), is_one, text)
                self.assertIs(is_letter(text), re.fullmatch("[A-Z][a-z0-9]", text) is not None, text)


class Within(unittest.TestCase):
    def test_each_form(self):
        for statement, text, how_deep, names, free in FORMS:
            with self.subTest(text=text):
                self.assertEqual(deep(statement), how_deep)
                self.assertEqual(names_in(statement), names)
                self.assertEqual(free_in(statement), free)

    def test_kinds(self):
        for statement in STATEMENTS:
            self.assertIs(type(deep(statement)), int)
            self.assertIs(type(names_in(statement)), tuple)
            self.assertIs(type(free_in(statement)), tuple)

    def test_deep_to_the_bound_and_somewhat_beyond(self):
        for rule in CHAIN_RULES:
            for length in (1, 2, 39, 40, 41, 60):
                with self.subTest(rule=rule, length=length):
                    self.assertEqual(deep(chain(rule, length)), length)

    def test_deep_goes_by_the_deepest_part(self):
        self.assertEqual(deep(("and", chain("not", 5), P)), 6)
        self.assertEqual(deep(("and", P, chain("not", 5))), 6)
        self.assertEqual(deep(("then", chain("all", 3), chain("not", 7))), 8)
        self.assertEqual(deep(("or", FALSE, FALSE)), 2)

    def test_each_once_and_rising(self):
        many = P
        for term in ("tom", "Z", "b2", "b10", "B", "a", "Aa", "A0", "tom", "Z", "b", "A"):
            many = ("and", ("is", "w", (term, "a", "Z")), many)
        self.assertEqual(names_in(many), ("a", "b", "b10", "b2", "tom"))
        self.assertEqual(free_in(many), ("A", "A0", "Aa", "B", "Z"))

    def test_words_are_no_names(self):
        self.assertEqual(names_in(("is", "tom", ())), ())
        self.assertEqual(names_in(("is", "tom", ("ann",))), ("ann",))

    def test_names_within_quantifiers(self):
        self.assertEqual(names_in(("all", "X", ("is", "p", ("c", "X")))), ("c",))
        self.assertEqual(names_in(("not", ("some", "X", ("or", P, ("is", "p", ("c", "a")))))), ("a", "c"))

    def test_a_letter_bound_here_and_free_there(self):
        self.assertEqual(free_in(("and", ("all", "X", PX), PX)), ("X",))
        self.assertEqual(free_in(("and", PX, ("all", "X", PX))), ("X",))
        self.assertEqual(free_in(("and", ("all", "X", PX), ("some", "X", PX))), ())
        self.assertEqual(free_in(("then", ("all", "X", PY), ("some", "Y", PX))), ("X", "Y"))

    def test_a_quantifier_within_one_of_the_same_letter(self):
        self.assertEqual(free_in(("all", "X", ("some", "X", PX))), ())
        self.assertEqual(free_in(("all", "X", ("and", ("some", "X", PX), PX))), ())
        self.assertEqual(free_in(("all", "X", ("and", ("some", "X", PY), PX))), ("Y",))

    def test_the_letter_of_a_quantifier_alone_is_not_free(self):
        self.assertEqual(free_in(("all", "X", P)), ())
        self.assertEqual(free_in(("some", "Y", FALSE)), ())

    def test_letters_that_begin_alike_are_others(self):
        self.assertEqual(free_in(("all", "X", ("is", "p", ("X1", "X", "Xx")))), ("X1", "Xx"))


class Putting(unittest.TestCase):
    def test_each_free_one_becomes_the_name(self):
        self.assertEqual(put(PX, "X", "c"), ("is", "p", ("c",)))
        self.assertEqual(put(("is", "p", ("X", "X", "Y")), "X", "c"), ("is", "p", ("c", "c", "Y")))
        self.assertEqual(put(("is", "p", ("Y", "X", "c")), "X", "c"), ("is", "p", ("Y", "c", "c")))
        self.assertEqual(put(("not", PX), "X", "c"), ("not", ("is", "p", ("c",))))
        for rule in ("and", "or", "then"):
            self.assertEqual(put((rule, PX, PY), "X", "c"), (rule, ("is", "p", ("c",)), PY))
            self.assertEqual(put((rule, PY, PX), "X", "c"), (rule, PY, ("is", "p", ("c",))))

    def test_within_a_quantifier_of_that_letter_all_stays(self):
        for rule in ("all", "some"):
            own = (rule, "X", ("is", "p", ("X", "Y")))
            self.assertEqual(put(own, "X", "c"), own)
            self.assertEqual(put(own, "Y", "c"), (rule, "X", ("is", "p", ("X", "c"))))
            self.assertEqual(put(("and", PX, own), "X", "c"), ("and", ("is", "p", ("c",)), own))
            self.assertEqual(put(("and", own, PX), "X", "c"), ("and", own, ("is", "p", ("c",))))
            inner = (rule, "Y", ("or", PX, own))
            self.assertEqual(put(inner, "X", "c"), (rule, "Y", ("or", ("is", "p", ("c",)), own)))

    def test_a_quantifier_of_another_letter_within_one_of_that_letter(self):
        own = ("all", "X", ("some", "Y", ("is", "p", ("X", "Y"))))
        self.assertEqual(put(own, "X", "c"), own)
        self.assertEqual(put(own, "Y", "c"), own)

    def test_a_letter_that_does_not_stand_there(self):
        for statement in STATEMENTS:
            self.assertEqual(put(statement, "W", "c"), statement)

    def test_words_and_quantified_letters_stay(self):
        self.assertEqual(put(("all", "X", P), "X", "c"), ("all", "X", P))
        self.assertEqual(put(("is", "c", ("X",)), "X", "d"), ("is", "c", ("d",)))
        self.assertEqual(put(FALSE, "X", "c"), FALSE)
        self.assertEqual(put(P, "X", "c"), P)

    def test_letters_that_begin_alike_stay(self):
        self.assertEqual(put(("is", "p", ("X1", "X", "Xx")), "X", "c"), ("is", "p", ("X1", "c", "Xx")))

    def test_what_is_free_and_named_behind_it(self):
        for statement in small_statements(3):
            for letter in ("X", "Y", "Z"):
                after = put(statement, letter, "c")
                free = free_in(statement)
                self.assertEqual(free_in(after), tuple(one for one in free if one != letter))
                told = names_in(statement)
                wanted = tuple(sorted(told + ("c",))) if letter in free else told
                self.assertEqual(names_in(after), wanted)
                self.assertEqual(deep(after), deep(statement))

    def test_at_the_bound(self):
        for rule in CHAIN_RULES:
            made = chain(rule, 39)
            self.assertEqual(put(("and", made, PX), "X", "c"), ("and", made, ("is", "p", ("c",))))


class NothingChanged(unittest.TestCase):
    def test_handed_in_stays_and_asked_twice_is_the_same(self):
        for statement in STATEMENTS:
            ahead = repr(statement)
            for ask in (deep, names_in, free_in, lambda A: put(A, "X", "c")):
                first = ask(statement)
                put(statement, "Y", "d")
                self.assertEqual(ask(statement), first)
                self.assertEqual(repr(statement), ahead)


if __name__ == "__main__":
    unittest.main()
