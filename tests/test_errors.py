"""The refusals of the interface: what they stand under and which values they have."""

import unittest

from fewpegs.errors import BoardError, NoBar, NoBoard, NoDeed, NoLine, NoPegs, NoPicture, NotTop

PLAIN = (NoLine, NoBoard, NoPegs, NoPicture, NoBar)
REFUSALS = PLAIN + (NotTop, NoDeed)


class Family(unittest.TestCase):
    def test_board_error_is_a_value_error(self):
        self.assertTrue(issubclass(BoardError, ValueError))
        self.assertIsInstance(BoardError("words"), ValueError)

    def test_each_refusal_is_a_board_error_and_a_value_error(self):
        for refusal in REFUSALS:
            with self.subTest(refusal=refusal.__name__):
                self.assertTrue(issubclass(refusal, BoardError))
                self.assertTrue(issubclass(refusal, ValueError))
                self.assertNotEqual(refusal, BoardError)

    def test_none_stands_under_another(self):
        for one in REFUSALS:
            for other in REFUSALS:
                if one is not other:
                    with self.subTest(one=one.__name__, other=other.__name__):
                        self.assertFalse(issubclass(one, other))

    def test_names_are_those_of_the_interface(self):
        names = [refusal.__name__ for refusal in REFUSALS]
        self.assertEqual(names, ["NoLine", "NoBoard", "NoPegs", "NoPicture", "NoBar", "NotTop", "NoDeed"])
        self.assertEqual(BoardError.__name__, "BoardError")

    def test_each_is_raised_and_taken_as_board_error(self):
        made = [refusal("words") for refusal in PLAIN] + [NotTop(3, None), NoDeed(0)]
        for error in made:
            with self.subTest(error=error):
                with self.assertRaises(BoardError) as taken:
                    raise error
                self.assertIs(taken.exception, error)


class Values(unittest.TestCase):
    def test_not_top_has_line_and_top(self):
        error = NotTop(3, 59)
        self.assertEqual((error.line, error.top), (3, 59))

    def test_not_top_of_an_empty_pile(self):
        error = NotTop(0, None)
        self.assertEqual(error.line, 0)
        self.assertIsNone(error.top)

    def test_no_deed_has_place(self):
        for place in (0, 1, 399):
            self.assertEqual(NoDeed(place).place, place)

    def test_each_object_has_its_own_values(self):
        one, other = NotTop(1, 2), NotTop(4, None)
        first, second = NoDeed(7), NoDeed(8)
        self.assertEqual((one.line, one.top, other.line, other.top), (1, 2, 4, None))
        self.assertEqual((first.place, second.place), (7, 8))


if __name__ == "__main__":
    unittest.main()
