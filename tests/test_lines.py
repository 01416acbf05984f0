import itertools
import unittest

from plain_steps import plain_boxes
from refusals import refused_with
from samples import P, rows

from boxproof.errors import NoBox
from boxproof.lines import boxes, opens

LIKE_OPENING = (
    "", "g", "gues", "guesss", "guess ", " guess", "guess0", "Guess", "GUESS", "ne", "new ", " new", "news", "newc",
    "New",
    "cas", "case ", "cases", "case0", "Case", "ew", "uess", "ase", "guess new", "new\n", "guesscase",
)
OTHER_RULES = (
    "given", "again", "both", "left", "right", "either", "cases", "then", "use", "deny", "clash", "absurd", "any",
    "each",
    "every", "some", "one", "nonsuch",
)


class Opening(unittest.TestCase):
    def test_the_three_that_open_a_box(self):
        for rule in ("guess", "new", "case"):
            self.assertIs(opens(rule), True)

    def test_other_rules_open_none(self):
        for rule in OTHER_RULES:
            self.assertIs(opens(rule), False)

    def test_texts_that_begin_alike_or_lack_a_sign(self):
        for rule in LIKE_OPENING:
            self.assertIs(opens(rule), False)


class Boxes(unittest.TestCase):
    def expect(self, lines, paths):
        self.assertEqual(boxes(lines), paths)
        self.assertEqual(boxes(list(lines)), paths)
        self.assertEqual(plain_boxes(lines), paths)

    def refuse(self, lines):
        with self.subTest(lines=repr(lines)[:80]):
            refused_with(self, NoBox, lambda: boxes(lines))
            refused_with(self, NoBox, lambda: boxes(list(lines)))
            self.assertIsNone(plain_boxes(lines))

    def test_no_lines(self):
        self.assertEqual(boxes(()), ())
        self.assertEqual(boxes([]), ())

    def test_kinds(self):
        for kind in (tuple, list):
            told = boxes(kind(rows((0, "given"), (1, "guess"))))
            self.assertIs(type(told), tuple)
            self.assertEqual([type(one) for one in told], [tuple, tuple])

    def test_lines_in_no_box(self):
        self.expect(rows((0, "given")), ((),))
        self.expect(rows((0, "given"), (0, "again"), (0, "both")), ((), (), ()))

    def test_each_rule_that_opens(self):
        for rule in ("guess", "new", "case"):
            self.expect(rows((1, rule)), ((0,),))
            self.expect(rows((0, "given"), (1, rule), (1, "again"), (0, "then")), ((), (1,), (1,), ()))

    def test_a_box_within_a_box(self):
        self.expect(
            rows((1, "guess"), (1, "again"), (2, "new"), (2, "again"), (3, "case"), (3, "any")),
            ((0,), (0,), (0, 2), (0, 2), (0, 2, 4), (0, 2, 4)),
        )

    def test_boxes_left_one_at_a_time(self):
        self.expect(
            rows((1, "guess"), (2, "guess"), (3, "guess"), (2, "again"), (1, "again"), (0, "again")),
            ((0,), (0, 1), (0, 1, 2), (0, 1), (0,), ()),
        )

    def test_boxes_left_several_at_a_time(self):
        self.expect(
            rows((1, "guess"), (2, "guess"), (3, "guess"), (1, "again"), (2, "guess"), (0, "again")),
            ((0,), (0, 1), (0, 1, 2), (0,), (0, 4), ()),
        )
        self.expect(rows((1, "guess"), (2, "guess"), (3, "guess"), (0, "any")), ((0,), (0, 1), (0, 1, 2), ()))

    def test_a_box_opened_where_another_was_left(self):
        self.expect(rows((1, "guess"), (1, "guess"), (1, "case"), (1, "new")), ((0,), (1,), (2,), (3,)))
        self.expect(
            rows((1, "guess"), (2, "guess"), (2, "guess"), (2, "again"), (1, "new"), (1, "again")),
            ((0,), (0, 1), (0, 2), (0, 2), (4,), (4,)),
        )
        self.expect(rows((1, "guess"), (2, "new"), (3, "case"), (1, "guess")), ((0,), (0, 1), (0, 1, 2), (3,)))

    def test_the_numbers_are_the_lines_that_open(self):
        self.expect(rows((0, "given"), (0, "given"), (1, "guess"), (1, "again")), ((), (), (2,), (2,)))

    def test_a_level_one_beyond(self):
        for ahead, most in (
            ((), 0),
            (rows((0, "given")), 0),
            (rows((1, "guess")), 1),
            (rows((1, "guess"), (2, "new")), 2),
            (rows((1, "guess"), (2, "new"), (1, "again")), 1),
            (rows((1, "guess"), (2, "new"), (0, "again")), 0),
        ):
            for rule in OTHER_RULES:
                self.assertEqual(len(boxes(ahead + rows((most, rule)))[-1]), most)
                for more in (1, 2, 10):
                    self.refuse(ahead + rows((most + more, rule)))
            for rule in ("guess", "new", "case"):
                self.assertEqual(len(boxes(ahead + rows((most + 1, rule)))[-1]), most + 1)
                for more in (2, 3, 10):
                    self.refuse(ahead + rows((most + more, rule)))

    def test_a_level_below_nought_or_nought_of_a_line_that_opens(self):
        for ahead in ((), rows((0, "given")), rows((1, "guess"), (2, "guess"))):
            for level in (-1, -2, -10):
                for rule in ("again", "guess", "new", "case"):
                    self.refuse(ahead + rows((level, rule)))
            for rule in ("guess", "new", "case"):
                self.refuse(ahead + rows((0, rule)))
            self.assertEqual(boxes(ahead + rows((0, "again")))[-1], ())

    def test_in_the_midst(self):
        for wrong in ((2, "again"), (3, "guess"), (-1, "again"), (0, "new")):
            self.refuse(rows((1, "guess"), (1, "again"), wrong, (1, "again"), (0, "then")))

    def test_rules_that_only_begin_alike_open_none(self):
        for rule in LIKE_OPENING:
            self.refuse(rows((1, rule)))
            self.expect(rows((1, "guess"), (1, rule), (0, rule)), ((0,), (0,), ()))

    def test_statement_and_refs_are_no_affair_of_it(self):
        lines = ((1, "guess", None, (7,)), (2, "new", P, ()), (1, "again", ("is", "p", ("X",)), ("c", "d")))
        self.assertEqual(boxes(lines), ((0,), (0, 1), (0,)))

    def test_all_short_rows_of_lines(self):
        kinds = [(level, rule) for level in (-1, 0, 1, 2, 3) for rule in ("again", "guess")]
        for length in range(5):
            for chosen in itertools.product(kinds, repeat=length):
                lines = rows(*chosen)
                try:
                    told = boxes(lines)
                except NoBox:
                    told = None
                self.assertEqual(told, plain_boxes(lines), lines)

    def test_500_boxes_within_one_another_and_6000_lines(self):
        down = [(level, "guess") for level in range(1, 501)]
        stay = [(500, "again")] * 5000
        up = [(level, "then") for level in range(499, -1, -1)]
        paths = boxes(rows(*(down + stay + up)))
        self.assertEqual(len(paths), 6000)
        self.assertEqual(paths[499], tuple(range(500)))
        self.assertEqual(set(paths[500:5500]), {tuple(range(500))})
        self.assertEqual(paths[5500], tuple(range(499)))
        self.assertEqual(paths[-1], ())
        self.refuse(rows(*(down + [(501, "again")])))
        self.refuse(rows(*(down + stay + up + [(1, "again")])))


class NothingChanged(unittest.TestCase):
    def test_handed_in_stays_and_asked_twice_is_the_same(self):
        lines = list(rows((1, "guess"), (2, "new"), (2, "again"), (1, "again"), (0, "then")))
        ahead = repr(lines)
        told = boxes(lines)
        with self.assertRaises(NoBox):
            boxes(lines + [(1, "again", P, ())])
        self.assertEqual(boxes(lines), told)
        self.assertEqual(repr(lines), ahead)

    def test_what_is_told_stays_when_the_lines_change(self):
        lines = list(rows((1, "guess"), (1, "again")))
        told = boxes(lines)
        lines[1] = (0, "again", P, ())
        lines.append((1, "guess", P, ()))
        self.assertEqual(told, ((0,), (0,)))
        self.assertEqual(boxes(lines), ((0,), (), (2,)))


if __name__ == "__main__":
    unittest.main()
