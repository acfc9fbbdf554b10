"""The deeds of both boards, what they tell and refuse, and the picture: points 1, 4, 5, 6, 7 and 8."""

import unittest

from fewpegs.errors import BoardError, NoBar, NoLine, NotTop
from helpers import GREATEST, NO_NUMBERS, boards, no_lines, whole_state

NEW = ([], [], [], None)


class DeedsCase(unittest.TestCase):
    def check_told(self, board, asking, muted, pile, bar):
        told = board.told()
        self.assertEqual(told, (asking, muted, pile, bar))
        self.assertIs(type(told), tuple)
        self.assertEqual([type(part) for part in told[:3]], [list, list, list])
        for line in told[0] + told[1] + told[2]:
            self.assertIs(type(line), int)

    def check_refused(self, board, refusal, deed, thing):
        kept = whole_state(board)
        with self.assertRaises(refusal) as taken:
            deed(thing)
        self.assertIs(type(taken.exception), refusal)
        self.assertIsInstance(taken.exception, BoardError)
        self.assertEqual(whole_state(board), kept)
        return taken.exception


class NewBoard(DeedsCase):
    def test_nothing_asks_is_muted_or_served(self):
        for ranks in ([0], [GREATEST], [3, 1, 2], [7] * 60):
            for board in boards(ranks):
                self.check_told(board, [], [], [], None)
                self.assertIsNone(board.best())
                self.assertIsNone(board.take())
                self.check_told(board, [], [], [], None)


class RingAndCalm(DeedsCase):
    def test_ring(self):
        for board in boards([5, 3, 4]):
            self.assertIs(board.ring(1), True)
            self.check_told(board, [1], [], [], None)
            self.assertIs(board.ring(1), False)
            self.check_told(board, [1], [], [], None)
            self.assertIs(board.ring(0), True)
            self.check_told(board, [0, 1], [], [], None)
            self.assertIs(board.ring(2), True)
            self.check_told(board, [0, 1, 2], [], [], None)

    def test_calm(self):
        for board in boards([5, 3, 4], ([0, 2], [], [], None)):
            self.assertIs(board.calm(1), False)
            self.check_told(board, [0, 2], [], [], None)
            self.assertIs(board.calm(2), True)
            self.check_told(board, [0], [], [], None)
            self.assertIs(board.calm(2), False)
            self.assertIs(board.calm(0), True)
            self.check_told(board, [], [], [], None)
            self.assertIs(board.calm(0), False)

    def test_a_line_rings_again_when_calmed(self):
        for board in boards([5]):
            for _ in range(3):
                self.assertIs(board.ring(0), True)
                self.assertIs(board.calm(0), True)
            self.check_told(board, [], [], [], None)

    def test_a_muted_line_rings_and_is_calmed(self):
        for board in boards([5, 3], ([], [1], [], None)):
            self.assertIs(board.ring(1), True)
            self.check_told(board, [1], [1], [], None)
            self.assertIs(board.ring(1), False)
            self.assertIsNone(board.best())
            self.assertIs(board.calm(1), True)
            self.check_told(board, [], [1], [], None)
            self.assertIs(board.calm(1), False)

    def test_by_the_parameter_s_name(self):
        for board in boards([5, 3]):
            self.assertIs(board.ring(line=1), True)
            self.assertIs(board.mute(line=1), True)
            self.assertIs(board.free(line=1), True)
            self.assertIs(board.calm(line=1), True)
            self.assertIsNone(board.bar(rank=7))
            board.ring(0)
            board.take()
            self.assertIsNone(board.end(line=0))

    def test_the_last_of_sixty_lines(self):
        for board in boards([GREATEST] * 60):
            self.assertIs(board.ring(59), True)
            self.assertIs(board.mute(59), True)
            self.check_told(board, [59], [59], [], None)
            self.assertIs(board.free(59), True)
            self.assertEqual(board.take(), 59)
            self.check_told(board, [], [], [59], None)


class MuteAndFree(DeedsCase):
    def test_mute(self):
        for board in boards([5, 3, 4]):
            self.assertIs(board.mute(2), True)
            self.check_told(board, [], [2], [], None)
            self.assertIs(board.mute(2), False)
            self.assertIs(board.mute(0), True)
            self.check_told(board, [], [0, 2], [], None)

    def test_free(self):
        for board in boards([5, 3, 4], ([], [0, 2], [], None)):
            self.assertIs(board.free(1), False)
            self.check_told(board, [], [0, 2], [], None)
            self.assertIs(board.free(0), True)
            self.check_told(board, [], [2], [], None)
            self.assertIs(board.free(0), False)
            self.assertIs(board.free(2), True)
            self.check_told(board, [], [], [], None)

    def test_a_line_that_asks_is_muted_and_freed(self):
        for board in boards([5, 3, 4], ([0, 1], [], [], None)):
            self.assertIs(board.mute(1), True)
            self.check_told(board, [0, 1], [1], [], None)
            self.assertEqual(board.best(), 0)
            self.assertIs(board.free(1), True)
            self.check_told(board, [0, 1], [], [], None)
            self.assertEqual(board.best(), 1)

    def test_a_served_line_is_muted_and_stays_in_the_pile(self):
        for board in boards([5, 3], ([], [], [0, 1], None)):
            self.assertIs(board.mute(1), True)
            self.assertIs(board.mute(0), True)
            self.check_told(board, [], [0, 1], [0, 1], None)
            self.assertIs(board.free(1), True)
            self.assertEqual(board.end(1), 0)
            self.check_told(board, [], [0], [0], None)


class NoLines(DeedsCase):
    def test_what_is_no_line_s_number(self):
        pictures = (None, ([0, 1, 3], [1], [0, 2], 7), ([0, 1, 2, 3], [], [], None))
        for picture in pictures:
            for board in boards([6, 5, 3, 1], picture):
                for thing in no_lines(4):
                    for deed in (board.ring, board.calm, board.mute, board.free, board.end):
                        with self.subTest(picture=picture, deed=deed.__name__, thing=repr(thing)[:80]):
                            self.check_refused(board, NoLine, deed, thing)

    def test_on_a_board_of_one_line_and_of_sixty(self):
        for many in (1, 60):
            for board in boards([9] * many, ([0], [], [many - 1], None)):
                for thing in (-1, many, -many, True, False, None):
                    for deed in (board.ring, board.calm, board.mute, board.free, board.end):
                        self.check_refused(board, NoLine, deed, thing)

    def test_what_is_handed_in_stays(self):
        things = ([0], {0: [1]}, [[], {}])
        for board in boards([1, 2]):
            for deed in (board.ring, board.calm, board.mute, board.free, board.end):
                for thing in things:
                    self.check_refused(board, NoLine, deed, thing)
        self.assertEqual(things, ([0], {0: [1]}, [[], {}]))


class Bar(DeedsCase):
    def test_bars_that_are_taken(self):
        bars = [0, 5, 6, None, GREATEST, 10 ** 60, 1, None, None, 5, 5, 10 ** 60, 0]
        for board in boards([5, 3], ([0], [1], [], None)):
            before = None
            for bar in bars:
                told = board.bar(bar)
                self.assertEqual(told, before)
                self.assertIs(type(told), type(before))
                self.check_told(board, [0], [1], [], bar)
                before = bar

    def test_the_bar_of_the_picture_is_told(self):
        for bar in (None, 0, 3, 10 ** 60):
            for board in boards([5, 3], ([], [], [], bar)):
                self.assertEqual(board.bar(4), bar)
                self.assertEqual(board.bar(None), 4)
                self.check_told(board, [], [], [], None)

    def test_what_is_no_bar(self):
        wrong = (-1, -2, -(10 ** 60), 10 ** 60 + 1, 10 ** 61, 10 ** 3999) + NO_NUMBERS
        for bar in (None, 0, 4, 10 ** 60):
            for board in boards([5, 3, 4], ([0, 1], [0], [2], bar)):
                for thing in wrong:
                    with self.subTest(bar=bar, thing=repr(thing)[:80]):
                        self.check_refused(board, NoBar, board.bar, thing)

    def test_a_line_whose_rank_is_the_bar_is_not_best(self):
        for rank in (0, 5, GREATEST):
            for board in boards([rank], ([0], [], [], None)):
                for bar, best in ((None, 0), (rank, None), (rank + 1, 0), (0, None), (10 ** 60, 0)):
                    board.bar(bar)
                    self.assertEqual(board.best(), best)

    def test_take_heeds_the_bar(self):
        for board in boards([5, 3], ([0, 1], [], [], 3)):
            self.assertIsNone(board.take())
            self.check_told(board, [0, 1], [], [], 3)
            board.bar(4)
            self.assertEqual(board.take(), 1)
            self.check_told(board, [0], [], [1], 4)

    def test_a_bar_leaves_the_lines_that_are_served(self):
        for board in boards([5, 3], ([], [], [0, 1], None)):
            self.assertIsNone(board.bar(0))
            self.check_told(board, [], [], [0, 1], 0)
            self.assertEqual(board.end(1), 0)
            self.assertIsNone(board.end(0))

    def test_a_bar_under_the_top_s_rank_and_one_above_it(self):
        for bar, best in ((2, None), (3, 1), (9, 1), (None, 1)):
            for board in boards([5, 2, 4], ([1, 2], [], [2], bar)):
                self.assertEqual(board.best(), best)
        for bar in (4, 5, 9, None):
            for board in boards([5, 4, 4], ([1], [], [2], bar)):
                self.assertIsNone(board.best())


class Best(DeedsCase):
    def test_of_like_ranks_the_lesser_number(self):
        for rank in (0, 7, GREATEST):
            for board in boards([rank] * 4, ([1, 2, 3], [], [], None)):
                self.assertEqual(board.best(), 1)
                board.ring(0)
                self.assertEqual(board.best(), 0)

    def test_of_ranks_that_differ_the_lesser_rank(self):
        for board in boards([9, 10, 8, GREATEST, 11], ([0, 1, 3, 4], [], [], None)):
            self.assertEqual(board.best(), 0)
            board.ring(2)
            self.assertEqual(board.best(), 2)
            for line in (2, 0, 1, 4, 3):
                self.assertEqual(board.best(), line)
                board.calm(line)
            self.assertIsNone(board.best())

    def test_the_greatest_rank(self):
        for board in boards([GREATEST, GREATEST - 1], ([0], [], [], None)):
            self.assertEqual(board.best(), 0)
            board.ring(1)
            self.assertEqual(board.best(), 1)

    def test_muted_lines_are_passed_by(self):
        for board in boards([1, 2, 3], ([0, 1, 2], [0, 1], [], None)):
            self.assertEqual(board.best(), 2)
            board.mute(2)
            self.assertIsNone(board.best())
            board.free(1)
            self.assertEqual(board.best(), 1)

    def test_a_line_that_is_muted_and_does_not_ask(self):
        for board in boards([1, 2], ([], [0], [], None)):
            board.free(0)
            self.assertIsNone(board.best())

    def test_the_top_s_rank(self):
        for board in boards([5, 5, 5, 4, 6], ([0, 2, 4], [], [1], None)):
            self.assertIsNone(board.best())
            board.ring(3)
            self.assertEqual(board.best(), 3)
            board.end(1)
            self.assertEqual(board.best(), 3)
            board.calm(3)
            self.assertEqual(board.best(), 0)

    def test_the_top_alone_counts(self):
        for board in boards([9, 2, 5], ([2], [], [0, 1], None)):
            self.assertIsNone(board.best())
            board.end(1)
            self.assertEqual(board.best(), 2)

    def test_a_served_line_that_asks_again_is_not_best(self):
        for board in boards([9, 2], ([0, 1], [], [0, 1], None)):
            self.assertIsNone(board.best())
            board.end(1)
            self.assertEqual(board.best(), 1)
            board.calm(1)
            self.assertIsNone(board.best())
            board.end(0)
            self.assertEqual(board.best(), 0)

    def test_nothing_changes(self):
        for board in boards([5, 3, 4], ([0, 1, 2], [2], [], None)):
            kept = whole_state(board)
            for _ in range(3):
                self.assertEqual(board.best(), 1)
            self.assertEqual(whole_state(board), kept)
            self.check_told(board, [0, 1, 2], [2], [], None)

    def test_the_first_line_is_no_none(self):
        for board in boards([5], ([0], [], [], None)):
            self.assertEqual(board.best(), 0)
            self.assertIs(type(board.best()), int)
            self.assertEqual(board.take(), 0)


class Take(DeedsCase):
    def test_one_within_another(self):
        for board in boards([5, 3, 4, 3]):
            board.ring(0)
            self.assertEqual(board.take(), 0)
            self.check_told(board, [], [], [0], None)
            board.ring(3)
            board.ring(2)
            board.ring(1)
            self.assertEqual(board.take(), 1)
            self.check_told(board, [2, 3], [], [0, 1], None)
            self.assertIsNone(board.take())
            self.check_told(board, [2, 3], [], [0, 1], None)
            self.assertEqual(board.end(1), 0)
            self.assertEqual(board.take(), 3)
            self.check_told(board, [2], [], [0, 3], None)
            self.assertEqual(board.end(3), 0)
            self.assertEqual(board.take(), 2)
            self.assertEqual(board.end(2), 0)
            self.assertIsNone(board.end(0))
            self.assertIsNone(board.take())
            self.check_told(board, [], [], [], None)

    def test_no_line(self):
        for picture in (NEW, ([0, 1], [0, 1], [], None), ([0, 1], [], [], 0), ([0, 1], [], [2], None)):
            for board in boards([5, 3, 3], picture):
                kept = whole_state(board)
                self.assertIsNone(board.take())
                self.assertEqual(whole_state(board), kept)
                self.check_told(board, *picture)

    def test_muted_lines_are_passed_by(self):
        for board in boards([1, 2], ([0, 1], [0], [], None)):
            self.assertEqual(board.take(), 1)
            self.check_told(board, [0], [0], [1], None)
            self.assertIsNone(board.take())
            board.free(0)
            self.assertEqual(board.take(), 0)
            self.check_told(board, [], [], [1, 0], None)

    def test_a_served_line_asks_again_and_is_muted(self):
        for board in boards([5, 3], ([1], [], [], None)):
            self.assertEqual(board.take(), 1)
            self.assertIs(board.ring(1), True)
            self.assertIs(board.ring(1), False)
            self.assertIsNone(board.take())
            self.check_told(board, [1], [], [1], None)
            self.assertIs(board.mute(1), True)
            self.check_told(board, [1], [1], [1], None)
            self.assertIsNone(board.end(1))
            self.assertIsNone(board.take())
            self.assertIs(board.free(1), True)
            self.assertEqual(board.take(), 1)
            self.check_told(board, [], [], [1], None)

    def test_sixty_lines_within_one_another(self):
        ranks = [GREATEST - number for number in range(60)]
        for board in boards(ranks):
            for line in range(60):
                board.ring(line)
                self.assertEqual(board.take(), line)
            self.check_told(board, [], [], list(range(60)), None)
            for line in range(59, 0, -1):
                self.assertEqual(board.end(line), line - 1)
            self.assertIsNone(board.end(0))
            self.check_told(board, [], [], [], None)


class End(DeedsCase):
    def check_not_top(self, board, line, top):
        error = self.check_refused(board, NotTop, board.end, line)
        self.assertEqual((error.line, error.top), (line, top))
        self.assertIs(type(error.line), int)
        self.assertIs(type(error.top), type(top))

    def test_the_top_with_one_beneath_it_and_with_none(self):
        for board in boards([5, 3, 4], ([2], [1], [0, 2, 1], 7)):
            self.assertEqual(board.end(1), 2)
            self.check_told(board, [2], [1], [0, 2], 7)
            self.assertEqual(board.end(2), 0)
            self.check_told(board, [2], [1], [0], 7)
            told = board.end(0)
            self.assertIsNone(told)
            self.check_told(board, [2], [1], [], 7)

    def test_the_first_line_beneath_is_no_none(self):
        for board in boards([5, 3], ([], [], [0, 1], None)):
            told = board.end(1)
            self.assertEqual(told, 0)
            self.assertIs(type(told), int)

    def test_another_line_in_the_pile(self):
        for board in boards([5, 3, 4], ([], [], [0, 2, 1], None)):
            self.check_not_top(board, 0, 1)
            self.check_not_top(board, 2, 1)
            board.end(1)
            self.check_not_top(board, 0, 2)

    def test_a_line_not_in_the_pile(self):
        for board in boards([5, 3, 4], ([1], [], [0], None)):
            self.check_not_top(board, 1, 0)
            self.check_not_top(board, 2, 0)

    def test_of_an_empty_pile(self):
        for board in boards([5, 3, 4], ([1], [2], [], 3)):
            for line in range(3):
                self.check_not_top(board, line, None)

    def test_a_line_that_is_ended_twice(self):
        for board in boards([5, 3], ([], [], [0, 1], None)):
            board.end(1)
            self.check_not_top(board, 1, 0)
            board.end(0)
            self.check_not_top(board, 0, None)

    def test_no_line_goes_first(self):
        for pile in ([], [0], [0, 1]):
            for board in boards([5, 3], ([], [], pile, None)):
                for thing in (-1, -2, 2, True, False, None):
                    self.check_refused(board, NoLine, board.end, thing)

    def test_values_stay_when_the_board_goes_on(self):
        for board in boards([5, 3], ([], [], [0, 1], None)):
            error = self.check_refused(board, NotTop, board.end, 0)
            board.end(1)
            board.end(0)
            self.assertEqual((error.line, error.top), (0, 1))


class Told(DeedsCase):
    def test_rising_numbers_whatever_order_they_came_in(self):
        for board in boards([1, 2, 3, 4, 5]):
            for line in (3, 0, 4, 1):
                board.ring(line)
                board.mute(4 - line)
            self.check_told(board, [0, 1, 3, 4], [0, 1, 3, 4], [], None)
            board.calm(1)
            board.free(3)
            board.ring(2)
            board.mute(2)
            self.check_told(board, [0, 2, 3, 4], [0, 1, 2, 4], [], None)

    def test_lists_are_new_each_time(self):
        for picture in (None, ([0, 1], [1], [2, 0], 4)):
            for board in boards([1, 2, 3], picture):
                one, other = board.told(), board.told()
                self.assertEqual(one, other)
                for place in range(3):
                    self.assertIsNot(one[place], other[place])
                parts = one[:3]
                self.assertEqual(len({id(part) for part in parts}), 3)

    def test_changed_by_the_asker_it_changes_nothing(self):
        for picture in (None, ([0, 1], [1], [2, 0], 4), ([0, 1, 2], [0, 1, 2], [2, 1, 0], None)):
            for board in boards([1, 2, 3], picture):
                kept = whole_state(board)
                for place in range(3):
                    told = board.told()
                    told[place].append(2)
                    told[place].reverse()
                    self.assertEqual(whole_state(board), kept)
                    told[place].clear()
                    self.assertEqual(whole_state(board), kept)

    def test_it_stays_when_the_board_goes_on(self):
        for board in boards([6, 5, 3, 1], ([1, 3], [1], [0], 6)):
            told = board.told()
            board.take()
            board.ring(2)
            board.free(1)
            board.mute(0)
            board.bar(None)
            board.end(3)
            board.calm(1)
            board.told()
            self.assertEqual(told, ([1, 3], [1], [0], 6))
            self.assertNotEqual(board.told(), told)

    def test_asking_changes_nothing(self):
        for board in boards([6, 5, 3, 1], ([1, 3], [1], [0], 6)):
            self.assertEqual(whole_state(board), whole_state(board))
            self.check_told(board, [1, 3], [1], [0], 6)


if __name__ == "__main__":
    unittest.main()
