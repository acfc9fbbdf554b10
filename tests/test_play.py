"""Rows of deeds, and rows that are refused: point 12, and point 1 as far as it speaks of rows."""

import copy
import inspect
import unittest

from fewpegs.errors import BoardError, NoDeed
from fewpegs.few import Few
from fewpegs.play import play
from fewpegs.wide import Wide
from helpers import COUNTS, GREATEST, NO_NUMBERS, WordsBoard, boards, no_lines, numbers, pegs_state, whole_state

RANKS = [5, 3, 4, 3]

NAMES = ("ring", "calm", "mute", "free", "bar", "best", "take", "end")
LONE = ("best", "take")

NO_DEEDS = (
    # no tuple
    None, True, False, 0, 1, "", "take", "best", [], ["take"], ["ring", 0], {}, {"ring": 0}, {"take"}, 1.5, b"take",
    object(), len, range(2),
    # no part, or a first one that is none of the texts
    (), ("",), ("", 0), ("ding",), ("ding", 0), ("Ring", 0), ("RING", 0), ("ring ", 0), (" take",), ("told",), ("told", 0),
    ("play", 0), ("on_pegs",), ("tallies",), ("refused", "line"), ("turn", 0), ("__init__",), ("rin", 0), ("ends", 0),
    # a first part that is no text
    (None,), (None, 0), (0,), (0, 0), (True, 0), (1.5, 0), (b"ring", 0), (b"take",), ([], 0), (["ring"], 0), ({}, 0),
    ({"take": 1},), ({"take"},), (("take",),), (("ring", 0),), (("ring",), 0), (object(), 0), ((), ()),
    # too few parts
    ("ring",), ("calm",), ("mute",), ("free",), ("bar",), ("end",),
    # too many parts
    ("ring", 0, 0), ("calm", 0, None), ("mute", 0, 1), ("free", 0, 0), ("bar", 0, 0), ("bar", None, None), ("end", 0, 0),
    ("best", None), ("take", None), ("best", 0), ("take", 0), ("best", ()), ("take", "take"), ("best", "best", "best"),
    ("ring", 0, 0, 0), ("ring", "ring", 0),
)


class PlayCase(unittest.TestCase):
    def check_play(self, board, deeds, told):
        answer = play(board, deeds)
        self.assertEqual(answer, told)
        self.assertIs(type(answer), list)
        self.assertEqual([type(one) for one in answer], [type(one) for one in told])


class Rows(PlayCase):
    def test_parameters(self):
        self.assertEqual(list(inspect.signature(play).parameters), ["board", "deeds"])
        self.assertEqual(play(deeds=[("ring", 0)], board=Wide(RANKS)), [True])

    def test_an_empty_row(self):
        for board in boards(RANKS, ([0], [1], [0], 4)):
            kept = whole_state(board)
            self.check_play(board, [], [])
            self.assertEqual(whole_state(board), kept)

    def test_each_deed_alone(self):
        cases = (
            (("ring", 1), True, ([0, 1, 2], [2], [0], None)),
            (("ring", 0), False, ([0, 2], [2], [0], None)),
            (("calm", 2), True, ([0], [2], [0], None)),
            (("calm", 1), False, ([0, 2], [2], [0], None)),
            (("mute", 0), True, ([0, 2], [0, 2], [0], None)),
            (("mute", 2), False, ([0, 2], [2], [0], None)),
            (("free", 2), True, ([0, 2], [], [0], None)),
            (("free", 0), False, ([0, 2], [2], [0], None)),
            (("bar", 0), None, ([0, 2], [2], [0], 0)),
            (("bar", 10 ** 60), None, ([0, 2], [2], [0], 10 ** 60)),
            (("best",), None, ([0, 2], [2], [0], None)),
            (("take",), None, ([0, 2], [2], [0], None)),
            (("end", 0), None, ([0, 2], [2], [], None)),
        )
        for deed, told, picture in cases:
            for board in boards(RANKS, ([0, 2], [2], [0], None)):
                with self.subTest(deed=deed):
                    self.check_play(board, [deed], [told])
                    self.assertEqual(board.told(), picture)

    def test_one_row_of_all_deeds(self):
        deeds = [
            ("ring", 0), ("ring", 0), ("best",), ("take",), ("ring", 3), ("ring", 1), ("mute", 1), ("mute", 1), ("best",),
            ("take",), ("free", 1), ("free", 1), ("take",), ("end", 3), ("bar", 3), ("take",), ("bar", 4), ("take",),
            ("ring", 2), ("calm", 2), ("calm", 2), ("end", 1), ("end", 0), ("bar", None),
        ]
        told = [
            True, False, 0, 0, True, True, True, False, 3,
            3, True, False, None, 0, None, None, 3, 1,
            True, True, False, 0, None, 4,
        ]
        for board in boards(RANKS):
            self.check_play(board, deeds, told)
            self.assertEqual(board.told(), ([], [], [], None))

    def test_the_best_line_is_told_and_stays(self):
        for board in boards(RANKS, ([2, 3], [], [], None)):
            self.check_play(board, [("best",), ("best",), ("take",), ("best",)], [3, 3, 3, None])
            self.assertEqual(board.told(), ([2], [], [3], None))

    def test_rows_go_on_where_the_last_one_left_off(self):
        for board in boards(RANKS):
            self.check_play(board, [("ring", 0), ("take",)], [True, 0])
            self.check_play(board, [("ring", 1), ("take",)], [True, 1])
            self.check_play(board, [("end", 1), ("end", 0)], [0, None])

    def test_a_row_of_four_hundred(self):
        for board in boards(RANKS):
            self.check_play(board, [("ring", 0), ("take",), ("best",), ("end", 0)] * 100, [True, 0, None, None] * 100)

    def test_a_longer_row_is_not_refused(self):
        for board in boards(RANKS):
            self.check_play(board, [("ring", 0), ("calm", 0)] * 250, [True, True] * 250)

    def test_the_pegs_of_a_few_board_follow(self):
        few = Few([0, 1, 2, 3], 1)
        play(few, [("ring", 2), ("ring", 3), ("ring", 0), ("take",), ("mute", 3)])
        self.assertEqual(pegs_state(few), ([2], [], (3, 3, 1)))


class Refusals(PlayCase):
    def test_each_refusal_within_a_row_that_goes_on(self):
        deeds = [
            ("ring", 4), ("ring", 0), ("calm", -1), ("mute", True), ("free", None), ("bar", -1), ("end", 0), ("take",),
            ("end", 1), ("end", 9), ("bar", 10 ** 60 + 1), ("bar", 10 ** 60), ("end", 0), ("end", 0), ("bar", "x"),
            ("best",), ("bar", None),
        ]
        line, bar, top = ("refused", "line"), ("refused", "bar"), ("refused", "top")
        told = [
            line, True, line, line, line, bar, top, 0,
            top, line, bar, None, None, top, bar,
            None, 10 ** 60,
        ]
        for board in boards(RANKS):
            self.check_play(board, deeds, told)
            self.assertEqual(board.told(), ([], [], [], None))

    def test_what_is_refused_changes_nothing(self):
        row = [(name, 4) for name in ("ring", "calm", "mute", "free", "end")] + [("bar", -1), ("end", 0), ("end", 2)]
        told = [("refused", "line")] * 5 + [("refused", "bar")] + [("refused", "top")] * 2
        for board in boards(RANKS, ([1, 2, 3], [3], [0, 1], 5)):
            kept = whole_state(board)
            self.check_play(board, row, told)
            self.assertEqual(whole_state(board), kept)

    def test_a_second_part_of_any_kind_is_a_deed(self):
        for board in boards(RANKS, ([1, 2], [2], [0], 5)):
            kept = whole_state(board)
            for thing in no_lines(4):
                row = [(name, thing) for name in ("ring", "calm", "mute", "free", "end")]
                self.check_play(board, row, [("refused", "line")] * 5)
            for thing in (-1, 10 ** 60 + 1, 10 ** 3999) + NO_NUMBERS:
                self.check_play(board, [("bar", thing)], [("refused", "bar")])
            self.assertEqual(whole_state(board), kept)


class NoDeeds(PlayCase):
    def check_no_deed(self, board, deeds, place):
        kept, row = whole_state(board), repr(deeds)
        with self.assertRaises(NoDeed) as taken:
            play(board, deeds)
        self.assertIs(type(taken.exception), NoDeed)
        self.assertIsInstance(taken.exception, BoardError)
        self.assertEqual(taken.exception.place, place)
        self.assertIs(type(taken.exception.place), int)
        self.assertEqual(whole_state(board), kept)
        self.assertEqual(repr(deeds), row)

    def test_at_each_place(self):
        good = [("ring", 1), ("mute", 2), ("bar", 5), ("take",), ("end", 1), ("ring", 99)]
        for thing in NO_DEEDS:
            for board in boards(RANKS, ([0], [3], [], None)):
                for place in (0, 3, 6):
                    with self.subTest(thing=thing, place=place):
                        self.check_no_deed(board, good[:place] + [thing] + good[place:], place)
                with self.subTest(thing=thing):
                    self.check_no_deed(board, [thing], 0)

    def test_of_two_the_first_one(self):
        for board in boards(RANKS, ([0], [3], [], None)):
            self.check_no_deed(board, [("take",), ("take", 1), ("take",), ("ring",)], 1)
            self.check_no_deed(board, [None, ("take",), []], 0)
            self.check_no_deed(board, [("take",), ("ring", 1), 5, "take"], 2)

    def test_the_last_of_four_hundred(self):
        for board in boards(RANKS):
            self.check_no_deed(board, [("ring", 0), ("take",)] * 199 + [("best",), ("best", 0)], 399)

    def test_ahead_of_deeds_that_would_be_refused(self):
        for board in boards(RANKS):
            self.check_no_deed(board, [("ring", 99), ("bar", -1), ("end", 0), ("ring",)], 3)

    def test_the_board_plays_on_behind_it(self):
        for board in boards(RANKS):
            self.check_no_deed(board, [("ring", 0), "take"], 1)
            self.check_play(board, [("ring", 0), ("take",)], [True, 0])

    def test_each_name_takes_just_its_parts(self):
        for name in NAMES:
            parts = 1 if name in LONE else 2
            for many in range(5):
                deed = (name,) + (0,) * many
                for board in boards(RANKS):
                    if many + 1 == parts:
                        self.assertEqual(len(play(board, [deed])), 1)
                    else:
                        self.check_no_deed(board, [deed], 0)


class HandedInAndTold(PlayCase):
    def test_the_row_stays(self):
        deeds = [("ring", [0]), ("ring", 0), ("bar", {"x": [1]}), ("take",), ("end", 0), ("end", "0")]
        kept = copy.deepcopy(deeds)
        for board in boards(RANKS):
            play(board, deeds)
            self.assertEqual(deeds, kept)

    def test_the_row_changed_behind_the_call_changes_nothing(self):
        for board in boards(RANKS):
            deeds = [("ring", 0), ("take",), ("bar", 4)]
            told = play(board, deeds)
            kept = whole_state(board)
            deeds.clear()
            self.assertEqual(told, [True, 0, None])
            self.assertEqual(whole_state(board), kept)

    def test_the_list_told_is_new_and_the_asker_s_own(self):
        for board in boards(RANKS):
            deeds = []
            one, other = play(board, deeds), play(board, deeds)
            self.assertIsNot(one, other)
            self.assertIsNot(one, deeds)
            one.append(1)
            self.assertEqual((other, deeds, play(board, [])), ([], [], []))
            told = play(board, [("ring", 0), ("take",), ("best",)])
            kept = whole_state(board)
            told.clear()
            self.assertEqual(whole_state(board), kept)

    def test_what_was_told_stays_when_the_board_goes_on(self):
        for board in boards(RANKS):
            told = play(board, [("ring", 0), ("take",), ("ring", 1), ("best",)])
            play(board, [("take",), ("end", 1), ("end", 0)])
            self.assertEqual(told, [True, 0, True, 1])


class LongRows(PlayCase):
    def row(self, source, many, length):
        deeds = []
        for _ in range(length):
            name = NAMES[next(source) % 8]
            line = next(source) % (many + 1)
            deeds.append((name,) if name in LONE else (name, line))
            if name == "bar" and next(source) % 2:
                deeds[-1] = ("bar", None)
        return deeds

    def test_both_boards_and_the_words_tell_alike(self):
        source = numbers(31)
        for pegs in COUNTS:
            for many in (1, 2, 5, 30, 60):
                ranks = [next(source) % (many + 2) for _ in range(many)]
                deeds = self.row(source, many, 400)
                wide, few, words = Wide(ranks), Few(ranks, pegs), WordsBoard(ranks, pegs)
                told = [words.do(deed) for deed in deeds]
                self.check_play(wide, deeds, told)
                self.check_play(few, deeds, told)
                self.assertEqual(wide.told(), words.told())
                self.assertEqual(few.told(), words.told())
                self.assertEqual(pegs_state(few), words.pegs_state())

    def test_a_row_cut_in_two_with_a_board_made_of_the_picture(self):
        source = numbers(37)
        for pegs in COUNTS:
            ranks = [next(source) % 9 * (GREATEST // 9) for _ in range(20)]
            deeds = self.row(source, 20, 200)
            told = play(Wide(ranks), deeds)
            board = Few(ranks, pegs)
            ahead = play(board, deeds[:90])
            for made in boards(ranks, board.told()) + [Few(ranks, 17 - pegs, board.told())]:
                self.assertEqual(ahead + play(made, deeds[90:]), told)


if __name__ == "__main__":
    unittest.main()
