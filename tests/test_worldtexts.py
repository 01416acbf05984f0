import unittest

from refusals import refused_with
from samples import NO_WORDS, small_worlds

from boxproof.errors import NoWorld
from boxproof.worlds import fit_world
from boxproof.worldtexts import read_world, world_text

# Each world and its text, row by row.
WORLDS = (
    ((1, (), ()), "things 1\n"),
    ((40, (), ()), "things 40\n"),
    ((2, (("ann", 1), ("tom", 0)), ()), "things 2\nann is 1\ntom is 0\n"),
    ((1, (), (("p", ()),)), "things 1\np\n"),
    (
        (3, (), (("b3tween", (2, 0, 1)), ("loves", (0, 1)), ("man", (0,)), ("p", ()))),
        "things 3\nb3tween 2 0 1\nloves 0 1\nman 0\np\n",
    ),
    (
        (12, (("a", 11), ("b10", 0), ("b2", 10)), (("p", ()), ("p", (2,)), ("p", (2, 11, 0)), ("p", (10,)))),
        "things 12\na is 11\nb10 is 0\nb2 is 10\np\np 2\np 2 11 0\np 10\n",
    ),
    ((1, (("is", 0),), (("is", ()),)), "things 1\nis is 0\nis\n"),
    ((2, (), (("is", ()), ("is", (0,)), ("is", (1, 0)))), "things 2\nis\nis 0\nis 1 0\n"),
    ((2, (("things", 1),), (("things", ()), ("things", (1,)))), "things 2\nthings is 1\nthings\nthings 1\n"),
    ((1, (), (("things", (0,)),)), "things 1\nthings 0\n"),
    ((9999, (("abcdefgh", 9998),), (("p", (1000, 9998)),)), "things 9999\nabcdefgh is 9998\np 1000 9998\n"),
)

TEXT = "things 12\nann is 0\ntom is 11\nloves 0 11\nman 0\n"
WORLD = (12, (("ann", 0), ("tom", 11)), (("loves", (0, 11)), ("man", (0,))))


class Written(unittest.TestCase):
    def test_row_by_row(self):
        for world, text in WORLDS:
            self.assertEqual(world_text(world), text)
        self.assertEqual(world_text(WORLD), TEXT)


class Reading(unittest.TestCase):
    def refuse(self, *texts):
        for text in texts:
            with self.subTest(text=text[:60]):
                refused_with(self, NoWorld, lambda: read_world(text))

    def test_each_text(self):
        for world, text in WORLDS:
            self.assertTrue(fit_world(world))
            self.assertEqual(read_world(text), world)
        self.assertEqual(read_world(TEXT), WORLD)

    def test_what_is_written_is_read_to_the_same(self):
        for size in (1, 2):
            for world in small_worlds(size, ("a", "is", "things"), (("is", 1), ("p", 0), ("things", 1), ("things", 0))):
                self.assertEqual(read_world(world_text(world)), world)

    def test_many_things_and_facts(self):
        every = tuple(("r", (a, b, c)) for a in range(40) for b in range(40) for c in range(40))
        world = (40, tuple((f"c{k}", k) for k in range(10)), every)
        self.assertEqual(read_world(world_text(world)), world)

    def test_blanks_more(self):
        for world, text in WORLDS:
            for more in (" ", "  ", "       "):
                rows = text.split("\n")[:-1]
                self.assertEqual(read_world("".join(more + row + "\n" for row in rows)), world)
                self.assertEqual(read_world("".join(row + more + "\n" for row in rows)), world)
                self.assertEqual(read_world(text.replace(" ", " " + more)), world)

    def test_rows_of_blanks_and_of_nothing(self):
        for world, text in WORLDS:
            for more in ("\n", " \n", "     \n", "\n\n   \n"):
                self.assertEqual(read_world(more + text), world)
                self.assertEqual(read_world(text + more), world)
                self.assertEqual(read_world(text.replace("\n", "\n" + more)), world)
            self.assertEqual(read_world(text + "   "), world)

    def test_the_last_line_feed_left_out(self):
        for world, text in WORLDS:
            self.assertEqual(read_world(text[:-1]), world)

    def test_no_blank_where_one_is_asked_for(self):
        self.refuse("things1\n", "things 1\na is0\n", "things 1\nis a0\n", "things 1\na0is 0 0 0 0\n")
        self.assertEqual(read_world("things 1\nais 0\n"), (1, (), (("ais", (0,)),)))
        self.assertEqual(read_world("things 1\nais0\n"), (1, (), (("ais0", ()),)))

    def test_a_tab(self):
        for k in range(len(TEXT) + 1):
            self.refuse(TEXT[:k] + "\t" + TEXT[k:])
        for k in range(len(TEXT)):
            if TEXT[k] == " ":
                self.refuse(TEXT[:k] + "\t" + TEXT[k + 1:])
        self.refuse("\t", "\t\nthings 1\n", "things 1\n\t\n", "things 1\n \t \n")

    def test_other_signs(self):
        for sign in "!\"#$&'()*+,-./:;<=>?@[\\]^_`{|}~":
            for k in range(len(TEXT) + 1):
                self.refuse(TEXT[:k] + sign + TEXT[k:])

    def test_rows_in_another_order(self):
        rows = TEXT.split("\n")[:-1]
        for k in range(len(rows)):
            for i in range(k):
                changed = list(rows)
                changed[i], changed[k] = changed[k], changed[i]
                self.refuse("".join(row + "\n" for row in changed))
        self.refuse("things 2\np\na is 0\n", "things 2\na is 0\np\nb is 0\n", "p\nthings 2\n", "a is 0\nthings 2\n")

    def test_no_row_of_things(self):
        self.refuse("", "\n", " ", "   \n\n", "p\n", "a is 0\n", "p 0\n", "a is 0\np 0\n", "1\n", "is\n", "thing 1\n")
        self.refuse(
            "things\n", "things 1 1\n", "things is 1\n", "things is 0\n", "things is\n", "Things 1\n", "1 things\n",
        )
        self.refuse("things\n1\n", "things X\n", "things things\n", "things one\n")

    def test_two_rows_of_things(self):
        # By point 24 the second is a fact's of the word things, and of a thing that isn't there.
        self.refuse("things 1\nthings 1\n", "things 2\nthings 3\n", "things 3\na is 0\nthings 3\n")
        self.refuse("things 2\nthings 1\na is 0\n", "things 3\nthings 2\nthings 1\n", "things 3\nthings 1\nthings 1\n")

    def test_how_numbers_are_written(self):
        for wrong in (
            "00", "01", "02", "0001", "00000", "10000", "99999", "+1", "-1", "-0", "+0", "1.", "1.0", "1e0", "1_0",
        ):
            self.refuse("things " + wrong + "\n")
            for size in ("2", "9999"):
                self.refuse("things " + size + "\na is " + wrong + "\n", "things " + size + "\np " + wrong + "\n")
                self.refuse("things " + size + "\np 0 " + wrong + "\n", "things " + size + "\np 0 0 " + wrong + "\n")
        self.refuse(
            "things 1" + "0" * 5000 + "\n", "things 2\np " + "1" * 5000 + "\n", "things 2\na is " + "0" * 5000 + "\n",
        )
        self.refuse(
            "things 2\na is b\n", "things 2\np b\n", "things 2\np X\n", "things 2\na is X\n", "things 2\np 1a\n",
        )

    def test_a_row_of_three_whose_second_is_is(self):
        self.assertEqual(read_world("things 2\np is 1\n"), (2, (("p", 1),), ()))
        self.assertEqual(read_world("things 2\nis is 1\nis 1 1\n"), (2, (("is", 1),), (("is", (1, 1)),)))
        self.refuse("things 2\np is is\n", "things 2\np is\n", "things 2\np is 0 1\n", "things 2\np is 0 is 1\n")
        self.refuse("things 2\nis is\n", "things 2\n0 is 1\n", "things 2\np 0 is\n", "things 2\np Is 0\n")
        self.refuse("things 2\np\nis is 0\n", "things 2\np 0\nq is 1\n")

    def test_no_fit_world(self):
        self.refuse("things 0\n", "things 0\np\n")
        self.refuse(
            "things 2\na is 2\n", "things 2\np 2\n", "things 2\np 0 2\n", "things 2\np 0 0 2\n", "things 2\np 9999\n",
        )
        self.refuse("things 2\np 0 0 0 0\n", "things 2\np 0 1 0 1 0\n", "things 2\np" + " 0" * 5000 + "\n")
        self.assertEqual(read_world("things 2\np 0 0 0\n"), (2, (), (("p", (0, 0, 0)),)))

    def test_names_or_facts_out_of_order_or_twice(self):
        self.refuse("things 2\nb is 0\na is 0\n", "things 2\na is 0\na is 0\n", "things 2\na is 0\na is 1\n")
        self.refuse("things 2\nq\np\n", "things 2\np\np\n", "things 2\np 1\np 0\n", "things 2\np 0\np 0\n")
        self.refuse(
            "things 2\np 0\np\n", "things 2\np 0 0\np 0\n", "things 12\np 10\np 2\n", "things 2\nb2 is 0\nb10 is 0\n",
        )

    def test_no_name_and_no_word(self):
        for text in NO_WORDS:
            if "\n" not in text and text.strip(" ") == text and text != "":
                self.refuse("things 2\n" + text + " is 0\n", "things 2\n" + text + " 0\n", "things 2\n" + text + "\n")
        self.refuse("things 2\n is 0 1 0 1\n", "things 2\n 0\n", "things 2\n0 1\n", "things 2\nis 0 is\n")

    def test_far_too_long(self):
        self.refuse("things 2\n" + "p\n" * 20000, "things 2\n" + "a is 0\n" * 20000, "x" * 100000, "x " * 100000)
        self.refuse("things 2\n" + "a" * 100000 + "\n", "things " * 10000)


class NothingChanged(unittest.TestCase):
    def test_asked_twice_is_the_same(self):
        for world, text in WORLDS:
            ahead = repr(world)
            first = read_world(text)
            with self.assertRaises(NoWorld):
                read_world(text + "0")
            self.assertEqual(world_text(world), text)
            self.assertEqual(read_world(text), first)
            self.assertEqual(repr(first), ahead)
            self.assertEqual(repr(world), ahead)


if __name__ == "__main__":
    unittest.main()
