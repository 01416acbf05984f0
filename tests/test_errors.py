import unittest

from boxproof.errors import BoxError, NoBox, NoLines, NoName, NoStatement, NotShut, NoWorld

SIX = (NoStatement, NoName, NoWorld, NoBox, NoLines, NotShut)


class Errors(unittest.TestCase):
    def test_box_error_is_a_value_error(self):
        self.assertTrue(issubclass(BoxError, ValueError))
        self.assertIsNot(BoxError, ValueError)

    def test_each_of_the_six_stands_under_box_error(self):
        for kind in SIX:
            with self.subTest(kind=kind.__name__):
                self.assertTrue(issubclass(kind, BoxError))
                self.assertIsNot(kind, BoxError)
                for taken_as in (kind, BoxError, ValueError):
                    with self.assertRaises(taken_as):
                        raise kind("words")

    def test_none_of_the_six_stands_under_another(self):
        for kind in SIX:
            for other in SIX:
                if kind is not other:
                    with self.subTest(kind=kind.__name__, other=other.__name__):
                        self.assertFalse(issubclass(kind, other))

    def test_there_are_six(self):
        self.assertEqual(len(set(SIX)), 6)
        self.assertEqual(
            [kind.__name__ for kind in SIX],
            ["NoStatement", "NoName", "NoWorld", "NoBox", "NoLines", "NotShut"],
        )


if __name__ == "__main__":
    unittest.main()
