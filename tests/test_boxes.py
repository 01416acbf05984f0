import itertools
import unittest

from samples import rows

from boxproof.boxes import box_seen, end_of, seen
from boxproof.errors import NoBox
from boxproof.lines import boxes, opens

# Two boxes of level 1 with a box each, and lines of level 0 around them.
LINES = rows(
    (0, "given"),    # 0
    (1, "guess"),    # 1
    (1, "again"),    # 2
    (2, "new"),      # 3
    (2, "again"),    # 4
    (1, "every"),    # 5
    (0, "then"),     # 6
    (1, "case"),     # 7
    (2, "guess"),    # 8
    (2, "guess"),    # 9
    (1, "again"),    # 10
    (1, "guess"),    # 11
    (2, "guess"),    # 12
    (0, "again"),    # 13
)
PATHS = boxes(LINES)


def plainly_seen(paths, k, i):
    return i < k and list(paths[i]) == [one for place, one in enumerate(paths[k]) if place < len(paths[i])]


def plainly_box_seen(paths, k, b):
    if b >= k or b in paths[k]:
        return False
    outer = [one for one in paths[b] if one != b]
    return outer == [one for place, one in enumerate(paths[k]) if place < len(outer)]


def plain_end(paths, b):
    return max(k for k in range(len(paths)) if paths[k] == paths[b])


class Seen(unittest.TestCase):
    def sees(self, k, *lines):
        """Of all lines just these are seen from line k."""
        for i in range(len(LINES)):
            self.assertIs(seen(PATHS, k, i), i in lines, (k, i))

    def test_none_from_the_first(self):
        self.sees(0)

    def test_a_line_ahead_itself_and_behind(self):
        self.assertIs(seen(PATHS, 2, 1), True)
        self.assertIs(seen(PATHS, 2, 2), False)
        self.assertIs(seen(PATHS, 1, 2), False)
        self.assertIs(seen(PATHS, 0, 13), False)
        self.assertIs(seen(PATHS, 13, 0), True)

    def test_in_the_same_box_and_in_outer_ones(self):
        self.sees(1, 0)
        self.sees(2, 0, 1)
        self.sees(3, 0, 1, 2)
        self.sees(4, 0, 1, 2, 3)

    def test_in_a_box_that_was_left(self):
        self.sees(5, 0, 1, 2)
        self.sees(6, 0)
        self.sees(13, 0, 6)

    def test_in_one_opened_anew_at_the_same_level(self):
        self.sees(7, 0, 6)
        self.sees(8, 0, 6, 7)
        self.sees(9, 0, 6, 7)
        self.sees(10, 0, 6, 7)
        self.sees(11, 0, 6)
        self.sees(12, 0, 6, 11)


class BoxSeen(unittest.TestCase):
    def sees(self, k, *those):
        """Of all boxes just these are seen from line k."""
        for b, line in enumerate(LINES):
            if opens(line[1]):
                self.assertIs(box_seen(PATHS, k, b), b in those, (k, b))

    def test_a_box_that_still_stands_or_is_behind(self):
        self.sees(0)
        self.sees(1)
        self.sees(2)
        self.sees(3)
        self.sees(4)

    def test_a_box_that_was_left(self):
        self.sees(5, 3)
        self.sees(6, 1)
        self.sees(7, 1)

    def test_a_box_within_another_that_was_left(self):
        self.assertIs(box_seen(PATHS, 6, 3), False)
        self.assertIs(box_seen(PATHS, 7, 3), False)
        self.sees(8, 1)

    def test_from_a_box_opened_where_it_was_left(self):
        self.sees(9, 1, 8)
        self.sees(10, 1, 8, 9)
        self.sees(11, 1, 7)
        self.sees(12, 1, 7)
        self.sees(13, 1, 7, 11)


class Ends(unittest.TestCase):
    def test_each(self):
        told = {b: end_of(PATHS, b) for b, line in enumerate(LINES) if opens(line[1])}
        self.assertEqual(told, {1: 5, 3: 4, 7: 10, 8: 8, 9: 9, 11: 11, 12: 12})

    def test_a_box_whose_end_is_its_first_line(self):
        self.assertEqual(end_of(boxes(rows((1, "guess"))), 0), 0)
        self.assertEqual(end_of(boxes(rows((1, "guess"), (1, "guess"))), 0), 0)
        self.assertEqual(end_of(boxes(rows((1, "guess"), (1, "guess"))), 1), 1)
        self.assertEqual(end_of(boxes(rows((1, "guess"), (0, "then"))), 0), 0)

    def test_a_box_that_ends_with_a_box_within_it(self):
        paths = boxes(rows((1, "guess"), (1, "again"), (2, "guess"), (2, "again"), (0, "then")))
        self.assertEqual(end_of(paths, 0), 1)
        self.assertEqual(end_of(paths, 2), 3)
        paths = boxes(rows((1, "guess"), (2, "guess"), (3, "guess"), (0, "then")))
        self.assertEqual([end_of(paths, b) for b in (0, 1, 2)], [0, 1, 2])

    def test_a_box_that_still_stands(self):
        paths = boxes(rows((1, "guess"), (2, "guess"), (2, "again"), (1, "again"), (1, "again")))
        self.assertEqual(end_of(paths, 0), 4)
        self.assertEqual(end_of(paths, 1), 2)

    def test_lines_behind_a_box_within_count(self):
        paths = boxes(rows((1, "guess"), (2, "guess"), (2, "again"), (1, "again"), (2, "guess"), (0, "again"), (1, "guess")))
        self.assertEqual(end_of(paths, 0), 3)
        self.assertEqual(end_of(paths, 4), 4)


class AllShort(unittest.TestCase):
    def test_all_short_rows_of_lines(self):
        kinds = [(0, "again"), (1, "again"), (2, "again"), (1, "guess"), (2, "new"), (3, "case")]
        for length in range(7):
            for chosen in itertools.product(kinds, repeat=length):
                try:
                    paths = boxes(rows(*chosen))
                except NoBox:
                    continue
                self.ask(paths, [k for k in range(length) if opens(chosen[k][1])])

    def ask(self, paths, opening):
        # Earlier lines are asked of by shorter rows.
        last = len(paths) - 1
        for k in range(len(paths)):
            self.assertIs(seen(paths, last, k), plainly_seen(paths, last, k))
            self.assertIs(seen(paths, k, last), False)
        for b in opening:
            self.assertIs(box_seen(paths, last, b), plainly_box_seen(paths, last, b))
            self.assertEqual(end_of(paths, b), plain_end(paths, b))


class ManyLines(unittest.TestCase):
    def test_500_boxes_within_one_another_and_6000_lines(self):
        down = [(level, "guess") for level in range(1, 501)]
        stay = [(500, "again")] * 5000
        up = [(level, "then") for level in range(499, -1, -1)]
        paths = boxes(rows(*(down + stay + up)))
        for b in range(499):
            self.assertEqual(end_of(paths, b), 5998 - b)
            self.assertIs(box_seen(paths, 5999 - b, b), True)
            self.assertIs(box_seen(paths, 5998 - b, b), False)
            self.assertIs(seen(paths, 5998 - b, b), True)
            self.assertIs(seen(paths, 5999 - b, b), False)
        self.assertEqual(end_of(paths, 499), 5499)


class NothingChanged(unittest.TestCase):
    def test_handed_in_stays_and_asked_twice_is_the_same(self):
        ahead = repr(PATHS)

        def ask_all():
            numbers = range(len(LINES))
            told = [seen(PATHS, k, i) for k in numbers for i in numbers]
            opening = [b for b in numbers if opens(LINES[b][1])]
            told.extend(box_seen(PATHS, k, b) for k in numbers for b in opening)
            return told + [end_of(PATHS, b) for b in opening]

        self.assertEqual(ask_all(), ask_all())
        self.assertEqual(repr(PATHS), ahead)


if __name__ == "__main__":
    unittest.main()
