"""The making of boards, with and without a picture, and what is refused there: points 1, 2, 4 and 8."""

import copy
import inspect
import itertools
import unittest

from fewpegs.board import Board
from fewpegs.errors import BoardError, NoBoard, NoPegs, NoPicture
from fewpegs.few import Few
from fewpegs.wide import Wide
from helpers import COUNTS, GREATEST, NO_NUMBERS, boards, no_lines, whole_state

RANKS = [6, 5, 3, 1, 3]
PICTURE = ([1, 3, 4], [0, 3], [0, 1, 4], 6)

NO_LISTS = (
    None, True, False, 0, 1, "", "0", "01", (), (0,), ((), ()), {}, {0: 0}, {0}, frozenset((0,)), 1.5, b"\x00", object(),
    range(2), iter([0]),
)


def makers(pegs=2):
    return [lambda ranks, picture=None: Wide(ranks, picture), lambda ranks, picture=None: Few(ranks, pegs, picture)]


class MakingCase(unittest.TestCase):
    def check_refused(self, refusal, make, *things):
        kept = copy.deepcopy(things)
        with self.assertRaises(refusal) as taken:
            make(*things)
        self.assertIs(type(taken.exception), refusal)
        self.assertIsInstance(taken.exception, BoardError)
        self.assertEqual(things, kept)


class Classes(unittest.TestCase):
    def test_both_are_boards(self):
        for board in boards([1]):
            self.assertIsInstance(board, Board)
        self.assertFalse(issubclass(Wide, Few) or issubclass(Few, Wide))

    def test_parameters(self):
        kinds = {Board: ["ranks", "picture"], Wide: ["ranks", "picture"], Few: ["ranks", "pegs", "picture"]}
        for kind, names in kinds.items():
            parameters = inspect.signature(kind).parameters
            self.assertEqual(list(parameters), names)
            self.assertIsNone(parameters["picture"].default)

    def test_by_the_parameters_names(self):
        made = [
            Wide(ranks=RANKS, picture=PICTURE), Wide(picture=PICTURE, ranks=RANKS),
            Few(ranks=RANKS, pegs=2, picture=PICTURE), Few(picture=PICTURE, pegs=3, ranks=RANKS),
        ]
        for board in made:
            self.assertEqual(board.told(), PICTURE)
        for board in (Wide(ranks=RANKS), Few(ranks=RANKS, pegs=2)):
            self.assertEqual(board.told(), ([], [], [], None))


class Pictures(MakingCase):
    def test_none_and_none_at_all_are_a_new_board(self):
        for board in (Wide(RANKS), Wide(RANKS, None), Few(RANKS, 2), Few(RANKS, 2, None)):
            self.assertEqual(board.told(), ([], [], [], None))
            self.assertIsNone(board.best())

    def test_pictures_that_are_taken(self):
        pictures = (
            ([], [], [], None),
            ([0], [], [], 0),
            ([], [0], [], 10 ** 60),
            ([0, 1, 2, 3, 4], [0, 1, 2, 3, 4], [0, 1, 2, 3], GREATEST),
            ([4], [4], [4], 3),
            ([2], [], [0, 1, 4, 3], None),
            ([0, 4], [1, 2], [1, 3], 2),
            PICTURE,
        )
        for picture in pictures:
            for board in boards(RANKS, picture):
                self.assertEqual(board.told(), picture)

    def test_a_pile_of_all_sixty_lines(self):
        ranks = [GREATEST - number for number in range(60)]
        lines = list(range(60))
        picture = (lines, lines, lines, 10 ** 60)
        for board in boards(ranks, picture):
            self.assertEqual(board.told(), picture)
            self.assertEqual(board.end(59), 58)
        self.assertEqual(lines, list(range(60)))

    def test_one_line_of_the_greatest_and_of_the_least_rank(self):
        for rank in (0, GREATEST):
            for board in boards([rank], ([0], [], [], None)):
                self.assertEqual(board.take(), 0)
                self.assertEqual(board.told(), ([], [], [0], None))

    def test_a_board_goes_on_as_the_one_of_the_picture(self):
        for made in boards(RANKS, ([0, 1, 2, 4], [2], [], None)):
            made.take()
            for board in boards(RANKS, made.told()):
                self.assertEqual(board.told(), ([0, 1, 2], [2], [4], None))
                self.assertEqual(board.best(), made.best())
                self.assertIs(board.ring(0), False)
                self.assertIs(board.ring(3), True)
                self.assertIs(board.mute(2), False)
                self.assertEqual(board.take(), 3)
                self.assertEqual(board.end(3), 4)

    def test_a_picture_of_other_ranks_holds_where_its_numbers_fit(self):
        picture = ([0], [], [1], None)
        for board in boards([9, 9], picture):
            self.assertIsNone(board.best())
        for board in boards([8, 9], picture):
            self.assertEqual(board.best(), 0)


class HandedIn(MakingCase):
    def test_it_stays(self):
        ranks, picture = list(RANKS), copy.deepcopy(PICTURE)
        for board in boards(ranks, picture):
            board.take()
            board.ring(2)
            board.free(3)
            board.mute(4)
            board.bar(None)
            board.end(4)
            board.told()[0].append(9)
            self.assertEqual((ranks, picture), (RANKS, PICTURE))

    def test_changed_behind_the_making_it_changes_nothing(self):
        for make in makers(1) + makers(2) + makers(16):
            ranks, picture = list(RANKS), copy.deepcopy(PICTURE)
            board = make(ranks, picture)
            kept = whole_state(board)
            for part in (ranks,) + picture[:3]:
                part.reverse()
                self.assertEqual(whole_state(board), kept)
                part.append(2)
                self.assertEqual(whole_state(board), kept)
                part.clear()
                self.assertEqual(whole_state(board), kept)
            self.assertEqual(board.end(4), 1)
            self.assertEqual(board.take(), 4)
            self.assertEqual(board.told(), ([1, 3], [0, 3], [0, 1, 4], 6))

    def test_ranks_changed_behind_the_making_of_a_new_board(self):
        for make in makers(1) + makers(2) + makers(16):
            ranks = [1, 2, 3]
            board = make(ranks)
            ranks.reverse()
            for line in (2, 1, 0):
                board.ring(line)
            self.assertEqual(board.best(), 0)
            ranks.clear()
            self.assertEqual(board.take(), 0)
            self.assertIs(board.ring(0), True)

    def test_one_list_as_several_parts(self):
        lines = []
        for board in boards([1, 2], (lines, lines, lines, None)):
            board.ring(1)
            self.assertEqual(board.told(), ([1], [], [], None))
            board.take()
            self.assertEqual(board.told(), ([], [], [1], None))
            self.assertEqual(lines, [])

    def test_a_board_made_of_what_another_one_told_is_apart_from_it(self):
        for one in boards(RANKS, PICTURE):
            for other in boards(RANKS, one.told()):
                kept = whole_state(one)
                other.ring(2)
                other.free(0)
                other.end(4)
                other.bar(1)
                self.assertEqual(whole_state(one), kept)

    def test_two_new_boards_are_apart(self):
        for make in makers():
            one, other = make(RANKS), make(RANKS)
            one.ring(0)
            one.mute(1)
            one.take()
            one.bar(3)
            self.assertEqual(other.told(), ([], [], [], None))


class Boards(MakingCase):
    def check_no_board(self, ranks):
        for picture in (None, ([], [], [], None)):
            self.check_refused(NoBoard, Wide, ranks, picture)
            self.check_refused(NoBoard, Few, ranks, 2, picture)

    def test_no_list(self):
        for thing in NO_LISTS:
            with self.subTest(thing=thing):
                for make in makers():
                    with self.assertRaises(NoBoard):
                        make(thing)

    def test_too_few_and_too_many(self):
        for many in (0, 61, 62, 400):
            self.check_no_board([1] * many)

    def test_one_and_sixty_are_taken(self):
        for many in (1, 2, 59, 60):
            for board in boards([GREATEST] * many):
                self.assertIs(board.ring(many - 1), True)

    def test_what_is_no_rank_at_each_place(self):
        wrong = (-1, -GREATEST, 10 ** 60, 10 ** 60 + 1, 10 ** 3999, None) + NO_NUMBERS
        for thing in wrong:
            for place in (0, 2, 4):
                ranks = [5, 0, GREATEST, 5, 1]
                ranks[place] = thing
                with self.subTest(thing=repr(thing)[:80], place=place):
                    for make in makers():
                        with self.assertRaises(NoBoard):
                            make(ranks)
                    self.assertIs(ranks[place], thing)
            for place in (0, 30, 59):
                ranks = [7] * 60
                ranks[place] = thing
                for make in makers():
                    with self.assertRaises(NoBoard):
                        make(ranks)
            for make in makers():
                with self.assertRaises(NoBoard):
                    make([thing])

    def test_what_is_handed_in_stays(self):
        self.check_no_board([1, -1])
        self.check_no_board([[], {0: []}])


class NoPictures(MakingCase):
    def check_no_picture(self, thing, ranks=RANKS):
        for make in makers():
            with self.assertRaises(NoPicture) as taken:
                make(list(ranks), thing)
            self.assertIs(type(taken.exception), NoPicture)

    def test_no_tuple(self):
        things = [thing for thing in NO_LISTS if thing is not None]
        for thing in things + [[], [[], [], [], None], list(PICTURE), {0: [], 1: [], 2: [], 3: None}, "pict"]:
            with self.subTest(thing=thing):
                self.check_no_picture(thing)

    def test_not_four_parts(self):
        for thing in ((), ([],), ([], []), ([], [], []), ([], [], [], None, None), ([], [], [], [], None), PICTURE * 2):
            with self.subTest(thing=thing):
                self.check_no_picture(thing)

    def test_a_part_that_is_no_list(self):
        for place in range(3):
            for thing in NO_LISTS:
                parts = [[], [], [], None]
                parts[place] = thing
                with self.subTest(place=place, thing=thing):
                    self.check_no_picture(tuple(parts))

    def test_a_part_that_is_no_list_but_holds_what_a_list_would(self):
        for place in range(3):
            parts = list(PICTURE)
            parts[place] = tuple(parts[place])
            self.check_no_picture(tuple(parts))

    def test_what_is_no_line_s_number(self):
        for place, where in itertools.product(range(3), range(3)):
            for thing in no_lines(5):
                lines = [0, 1, 3]
                lines[where] = thing
                parts = [[], [], [], None]
                parts[place] = lines
                with self.subTest(place=place, where=where, thing=repr(thing)[:80]):
                    self.check_no_picture(tuple(parts))
                parts[place] = [thing]
                self.check_no_picture(tuple(parts))

    def test_a_line_s_number_of_a_greater_board(self):
        for place in range(3):
            parts = [[], [], [], None]
            parts[place] = [1]
            self.check_no_picture(tuple(parts), [5])
            for board in boards([5, 5], tuple(parts)):
                self.assertEqual(board.told(), tuple(parts))

    def test_a_number_twice(self):
        for place in range(3):
            for lines in ([0, 0], [0, 1, 1], [0, 0, 1], [0, 1, 1, 3], [4, 4], [0, 1, 0]):
                parts = [[], [], [], None]
                parts[place] = lines
                with self.subTest(parts=parts):
                    self.check_no_picture(tuple(parts))

    def test_numbers_exchanged(self):
        for place in range(2):
            for lines in ([1, 0], [0, 2, 1], [1, 0, 2], [0, 1, 3, 2], [4, 3, 2, 1, 0], [0, 4, 1]):
                parts = [[], [], [], None]
                parts[place] = lines
                with self.subTest(parts=parts):
                    self.check_no_picture(tuple(parts))

    def test_a_pile_whose_ranks_stay_or_rise(self):
        for pile in ([2, 4], [4, 2], [3, 2], [1, 0], [0, 2, 4], [0, 2, 4, 3], [0, 2, 1], [1, 0, 3], [3, 0], [0, 3, 2]):
            with self.subTest(pile=pile):
                self.check_no_picture(([], [], pile, None))
        self.check_no_picture(([], [], [0, 1], None), [GREATEST, GREATEST])
        self.check_no_picture(([], [], [0, 1], None), [0, 0])

    def test_a_pile_goes_by_ranks_and_not_by_numbers(self):
        for board in boards([1, 2, 3], ([], [], [2, 1, 0], None)):
            self.assertEqual(board.end(0), 1)
        self.check_no_picture(([], [], [0, 1, 2], None), [1, 2, 3])

    def test_a_bar_that_is_none(self):
        for thing in (-1, -GREATEST, 10 ** 60 + 1, 10 ** 61, 10 ** 3999) + NO_NUMBERS:
            with self.subTest(thing=repr(thing)[:80]):
                self.check_no_picture(([], [], [], thing))
                self.check_no_picture(PICTURE[:3] + (thing,))

    def test_what_is_handed_in_stays(self):
        ranks, picture = [5, 3], ([1, 0], [True], [0, 1], -1)
        for make in makers():
            with self.assertRaises(NoPicture):
                make(ranks, picture)
        self.assertEqual((ranks, picture), ([5, 3], ([1, 0], [True], [0, 1], -1)))
        self.assertIs(picture[1][0], True)

    def test_parts_that_hold_themselves(self):
        knot = []
        knot.append(knot)
        for place in range(4):
            parts = [[], [], [], None]
            parts[place] = knot
            self.check_no_picture(tuple(parts))


class PegCounts(MakingCase):
    wrong = (0, -1, 17, 18, 60, GREATEST, 10 ** 60, -GREATEST, 10 ** 3999, None) + NO_NUMBERS

    def test_counts_that_are_taken(self):
        for pegs in COUNTS:
            self.assertEqual(Few(RANKS, pegs).told(), ([], [], [], None))
            self.assertEqual(Few(RANKS, pegs, PICTURE).told(), PICTURE)

    def test_counts_that_are_refused(self):
        for thing in self.wrong:
            with self.subTest(thing=repr(thing)[:80]):
                for picture in (None, PICTURE):
                    with self.assertRaises(NoPegs) as taken:
                        Few(RANKS, thing, picture)
                    self.assertIs(type(taken.exception), NoPegs)

    def test_what_is_handed_in_stays(self):
        ranks, pegs, picture = list(RANKS), [2], copy.deepcopy(PICTURE)
        with self.assertRaises(NoPegs):
            Few(ranks, pegs, picture)
        self.assertEqual((ranks, pegs, picture), (RANKS, [2], PICTURE))


class Several(MakingCase):
    no_boards = (None, [], [-1], [True], (1,), [0] * 61, [0, None], {})
    no_pictures = ((), [], 0, False, "", {}, ([0], [0], [0, 0], None), ([], [], [], -1), ([7], [], [], None))
    no_counts = (0, 17, None, True, "", [], {}, -1)

    def test_no_board_goes_first(self):
        for ranks in self.no_boards:
            for picture in self.no_pictures:
                self.check_refused(NoBoard, Wide, ranks, picture)
                for pegs in self.no_counts + (1, 16):
                    self.check_refused(NoBoard, Few, ranks, pegs, picture)
            for pegs in self.no_counts:
                for picture in (None, ([], [], [], None)):
                    self.check_refused(NoBoard, Few, ranks, pegs, picture)

    def test_then_no_picture(self):
        for picture in self.no_pictures:
            self.check_refused(NoPicture, Wide, [5, 3], picture)
            for pegs in self.no_counts + (1, 16):
                self.check_refused(NoPicture, Few, [5, 3], pegs, picture)

    def test_then_no_pegs(self):
        for pegs in self.no_counts:
            for picture in (None, ([], [], [], None), ([0, 1], [1], [0, 1], 4)):
                self.check_refused(NoPegs, Few, [5, 3], pegs, picture)


if __name__ == "__main__":
    unittest.main()
