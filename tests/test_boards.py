import copy
import unittest

from gatefold.boards import Board
from gatefold.errors import NoBoard
from samples import HUGE, NO_WHOLES, board_columns, board_depths, made_board, refusal

# A good board, of which one thing after the other is spoilt.
MANY = 3
PIECES = [(5, [1, 2], 6), (7, [1, 3, 5], 200), (8, [7], 1), (999, [2, 5, 7, 8], 40000)]
TIES = [0, 1, 2, 7, 10, 15, 17, 17, 1998]


def good_parts():
    return copy.deepcopy((MANY, PIECES, TIES))


def with_piece(place, part, thing):
    """The good board with another thing in one part of one of its pieces."""
    many, pieces, ties = good_parts()
    piece = list(pieces[place])
    piece[part] = thing
    pieces[place] = tuple(piece)
    return many, pieces, ties


def with_tie(place, thing):
    many, pieces, ties = good_parts()
    ties[place] = thing
    return many, pieces, ties


def with_lower(place, number, thing):
    """The good board with another thing in the cut of one of its pieces."""
    cut = list(PIECES[place][1])
    cut[number] = thing
    return with_piece(place, 1, cut)


def each_number_replaced(thing):
    """The good board, again and again, with the thing in the place of each of its numbers."""
    yield (thing, *good_parts()[1:])
    for place, piece in enumerate(PIECES):
        yield with_piece(place, 0, thing)
        for number in range(len(piece[1])):
            yield with_lower(place, number, thing)
        yield with_piece(place, 2, thing)
    for place in range(len(TIES)):
        yield with_tie(place, thing)


class Checks(unittest.TestCase):
    def check_kinds(self, board):
        self.assertIs(type(board.many), int)
        for told in (board.pieces(), board.ties(), board.columns(), board.depths()):
            self.assertIs(type(told), list)
        for piece in board.pieces():
            self.assertIs(type(piece), tuple)
            self.assertEqual([type(part) for part in piece], [int, list, int])
            self.assertEqual({type(lower) for lower in piece[1]}, {int})
        for told in (board.ties(), board.columns(), board.depths()):
            self.assertEqual({type(number) for number in told}, {int})

    def check_good(self, many, pieces, ties):
        wanted = copy.deepcopy((many, pieces, ties))
        board = Board(many, pieces, ties)
        self.check_kinds(board)
        self.assertEqual((board.many, board.pieces(), board.ties()), wanted)
        self.assertEqual(board.columns(), board_columns(*wanted))
        self.assertEqual(board.depths(), board_depths(*wanted))
        self.assertEqual((many, pieces, ties), wanted)
        return board

    def check_refused(self, many, pieces, ties):
        handed = (many, pieces, ties)
        before = repr(handed)
        with self.subTest(handed=before[:200]):
            self.assertIs(refusal(Board, *handed), NoBoard)
            self.assertEqual(repr(handed), before)


class GoodTest(Checks):
    def test_the_board_that_is_spoilt_below(self):
        self.check_good(*good_parts())

    def test_without_pieces(self):
        for many in range(1, 11):
            ties = list(range(2 * many + 2))
            board = self.check_good(many, [], ties)
            self.assertEqual(board.depths(), [0] * len(ties))
            self.assertEqual(self.check_good(many, [], [0]).columns(), [0])
            self.assertEqual(self.check_good(many, [], [1]).columns(), [2 ** 2**many - 1])

    def test_made_boards_of_one_to_ten_inputs(self):
        for many in range(1, 11):
            for count in (1, 2, 7, 40 if many < 8 else 12):
                self.check_good(*made_board(many, count, 9, f"board {many} {count}"))

    def test_cuts_of_one_to_six_numbers_with_the_least_and_the_greatest_table(self):
        for count in range(1, 7):
            cut = list(range(11 - count, 11))
            for table in (0, 1, 2 ** 2**count - 2, 2 ** 2**count - 1, 2 ** (2**count - 1)):
                self.check_good(10, [(11, cut, table)], [22, 23])

    def test_the_least_and_the_greatest_knot(self):
        for many in range(1, 11):
            self.check_good(many, [(many + 1, [many], 1)], [2 * many + 2])
            self.check_good(many, [(999, [1], 1)], [1999])
            self.check_good(many, [(998, [1], 1), (999, [1, 998], 6)], [1998, 1996])

    def test_outputs_that_are_alike(self):
        board = self.check_good(2, [(3, [1, 2], 8)], [6, 6, 7, 6, 0, 0, 2])
        self.assertEqual(board.columns(), [8, 8, 7, 8, 0, 0, 10])

    def test_many_outputs(self):
        self.check_good(2, [(3, [1, 2], 8)], [number % 8 for number in range(2000)])


class RefusedTest(Checks):
    def test_many_out_of_its_bounds(self):
        for many in (0, -1, -3, 11, 12, 100, HUGE, -HUGE):
            self.check_refused(many, [], [0])
            self.check_refused(many, [(500, [1], 1)], [1000])

    def test_knots_that_do_not_rise(self):
        self.assertIsNone(refusal(Board, 2, [(5, [1], 2), (6, [2], 2)], [0]))
        for knots in ((5, 5), (6, 5), (999, 3), (5, 6, 6), (5, 7, 6), (6, 5, 7), (5, 5, 6)):
            self.check_refused(2, [(knot, [1], 2) for knot in knots], [0])
        for place in range(1, 4):
            for knot in (PIECES[place - 1][0], PIECES[place - 1][0] - 1):
                self.check_refused(*with_piece(place, 0, knot))

    def test_knots_that_are_at_most_many(self):
        for many in range(1, 11):
            for knot in {many, many - 1, 1, 0, -1, -many, -HUGE}:
                self.check_refused(many, [(knot, [1], 2)], [0])
                self.check_refused(many, [(knot, [1], 2), (many + 1, [1], 2)], [0])
            self.assertIsNone(refusal(Board, many, [(many + 1, [1], 2)], [0]))

    def test_knots_of_a_thousand_or_more(self):
        for knot in (1000, 1001, 2000, HUGE):
            self.check_refused(2, [(knot, [1], 2)], [0])
            self.check_refused(2, [(knot, [1], 2)], [2 * knot])
            self.check_refused(2, [(3, [1], 2), (999, [1], 2), (knot, [1], 2)], [0])

    def test_cuts_of_no_number_or_more_than_six(self):
        self.check_refused(10, [(11, [], 0)], [0])
        self.check_refused(10, [(11, [], 1)], [0])
        for count in (7, 8, 10):
            self.check_refused(10, [(11, list(range(1, count + 1)), 0)], [22])
        pieces = [(knot, [1], 2) for knot in range(11, 811)]
        self.check_refused(10, pieces + [(900, list(range(1, 800)), 0)], [0])
        for place in range(4):
            self.check_refused(*with_piece(place, 1, []))

    def test_cuts_that_do_not_rise_or_have_a_number_twice(self):
        for cut in ([2, 1], [1, 1], [1, 3, 2], [2, 1, 3], [1, 2, 2], [1, 1, 2], [3, 2, 1], [1, 2, 3, 1], [2, 2, 2]):
            self.check_refused(3, [(4, cut, 0)], [8])
            self.check_refused(3, [(4, [1], 2), (5, [*cut, 4], 0)], [8])
        self.check_refused(3, [(4, [1], 2), (5, [4, 1], 0)], [8])

    def test_cuts_with_what_is_no_input_and_no_piece_ahead(self):
        for number in (0, -1, -HUGE):
            for cut in ([number], [number, 1], [number, 1, 2]):
                self.check_refused(2, [(5, cut, 0)], [0])
        # Of the three pieces' knots 5, 7 and 9, the second one may have 5 alone in its cut, and no number beside.
        for number in (3, 4, 6, 7, 8, 9, 10, 999, 1000, HUGE):
            for cut in ([number], [1, number], [1, 2, number]):
                self.check_refused(2, [(5, [1], 2), (7, cut, 0), (9, [2], 2)], [0])
        self.assertIsNone(refusal(Board, 2, [(5, [1], 2), (7, [1, 2, 5], 0), (9, [2], 2)], [0]))

    def test_tables_too_small_or_too_great_for_their_cut(self):
        for count in range(1, 7):
            cut = list(range(1, count + 1))
            over = 2 ** 2**count
            for table in (-1, -2, -over, over, over + 1, over**2 - 1, HUGE, -HUGE):
                self.check_refused(6, [(7, cut, table)], [0])
                self.check_refused(6, [(7, [1], 2), (8, cut, table), (9, [1], 2)], [0])

    def test_no_tie_at_all(self):
        self.check_refused(1, [], [])
        self.check_refused(MANY, copy.deepcopy(PIECES), [])

    def test_ties_below_0_or_of_a_knot_that_is_not_there(self):
        for tie in (-1, -2, -3, -10, 8, 9, 12, 13, 18, 19, 1996, 1997, 2000, 2001, HUGE, -HUGE):
            for place in range(len(TIES)):
                self.check_refused(*with_tie(place, tie))
        for many in range(1, 11):
            for tie in (-1, 2 * many + 2, 2 * many + 3):
                self.check_refused(many, [], [tie])
                self.check_refused(many, [], [0, tie])

    def test_no_whole_number_in_the_place_of_each_number(self):
        for thing in [*NO_WHOLES, object()]:
            for handed in each_number_replaced(thing):
                self.check_refused(*handed)

    def test_a_truth_or_a_float_that_is_like_the_number(self):
        for one in (True, 1.0):
            self.check_refused(one, [(2, [1], 1)], [4])
            self.check_refused(2, [(3, [one, 2], 1)], [6])
            self.check_refused(2, [(3, [1, 2], one)], [6])
            self.check_refused(2, [(3, [1, 2], 1)], [one])
        for nought in (False, 0.0):
            self.check_refused(2, [(3, [1, 2], nought)], [6])
            self.check_refused(2, [(3, [1, 2], 1)], [nought])
        self.check_refused(2, [(3.0, [1, 2], 1)], [0])
        self.check_refused(2, [(3, [1, 2], 1)], [6.0])

    def test_several_things_that_are_wrong(self):
        self.check_refused(None, [(None, [None], None)], [None])
        self.check_refused(0, [(0, [], -1)], [])
        self.check_refused(2, [("3", [[], {}], True)], [[]])

    def test_an_object_stays_when_another_one_is_refused(self):
        many, pieces, ties = good_parts()
        board = Board(many, pieces, ties)
        columns = board.columns()
        self.assertIs(refusal(Board, many, pieces, ties + [-1]), NoBoard)
        self.assertEqual((board.many, board.pieces(), board.ties()), (MANY, PIECES, TIES))
        self.assertEqual(board.columns(), columns)


class TellTest(Checks):
    def test_written_columns(self):
        board = self.check_good(2, [(3, [1, 2], 0b0001), (5, [1, 3], 0b0110)], [6, 7, 10, 11, 2, 4, 0, 1])
        self.assertEqual(board.columns(), [0b0001, 0b1110, 0b1011, 0b0100, 0b1010, 0b1100, 0b0000, 0b1111])
        self.assertEqual(board.depths(), [1, 1, 2, 2, 0, 0, 0, 0])

    def test_all_tables_of_one_and_of_two(self):
        for table in range(4):
            self.assertEqual(self.check_good(1, [(2, [1], table)], [4]).columns(), [table])
        for table in range(16):
            self.assertEqual(self.check_good(2, [(3, [1, 2], table)], [6]).columns(), [table])

    def test_a_piece_of_the_first_inputs_has_its_table_as_its_column(self):
        for many in range(1, 7):
            table = HUGE // 7 % 2 ** 2**many
            board = self.check_good(many, [(many + 1, list(range(1, many + 1)), table)], [2 * many + 2])
            self.assertEqual(board.columns(), [table])

    def test_constant_tables(self):
        board = self.check_good(3, [(4, [1, 2, 3], 0), (5, [1, 4], 15), (6, [4, 5], 4)], [8, 9, 10, 11, 12])
        self.assertEqual(board.columns(), [0, 255, 255, 0, 255])
        self.assertEqual(board.depths(), [1, 1, 2, 2, 3])

    def test_depths_go_by_the_greatest_in_the_cut(self):
        pieces = [(4, [1], 1), (5, [4], 1), (6, [5], 1), (7, [3, 4, 6], 9), (8, [1, 4], 9), (9, [7, 8], 9)]
        pieces += [(10, [2], 0)]
        board = self.check_good(3, pieces, [8, 10, 12, 14, 15, 16, 18, 20, 1, 6, 18, 18])
        self.assertEqual(board.depths(), [1, 2, 3, 4, 4, 2, 5, 1, 0, 0, 5, 5])

    def test_depth_of_knot_0_of_inputs_and_of_turned_ties(self):
        board = self.check_good(2, [(3, [1, 2], 6), (4, [3], 1)], [0, 1, 2, 3, 4, 5, 6, 7, 8, 9])
        self.assertEqual(board.depths(), [0, 0, 0, 0, 0, 0, 1, 1, 2, 2])

    def test_rows_of_seven_hundred_pieces(self):
        row = [(knot, [knot - 1], 1) for knot in range(2, 702)]
        board = self.check_good(1, row, [1402, 1403, 1400, 2])
        self.assertEqual(board.depths(), [700, 700, 699, 0])
        self.assertEqual(board.columns(), [2, 1, 1, 2])
        braid = [(knot, [knot - 2, knot - 1], 1 + knot % 14) for knot in range(3, 703)]
        self.assertEqual(self.check_good(2, braid, [1404, 1001]).depths(), [700, 498])
        wide = [(knot, list(range(knot - 6, knot)), (knot * 2**60 // 7) % 2**64) for knot in range(7, 707)]
        self.assertEqual(self.check_good(6, wide, [1412, 800]).depths()[0], 700)
        board = self.check_good(*made_board(5, 700, 20, "row", 12))
        self.assertGreater(max(board.depths()), 100)

    def test_the_most_pieces(self):
        pieces = [(knot, [knot - 1], 1) for knot in range(2, 1000)]
        board = self.check_good(1, pieces, [1998])
        self.assertEqual((board.columns(), board.depths()), ([2], [998]))


class KeptTest(Checks):
    def told(self, board):
        # A copy: lists that were not the asker's own would change with what they are held against.
        return copy.deepcopy((board.many, board.pieces(), board.ties(), board.columns(), board.depths()))

    def test_what_it_was_made_of_is_changed_behind(self):
        many, pieces, ties = good_parts()
        wanted = self.told(Board(*good_parts()))
        board = Board(many, pieces, ties)
        pieces[0][1].append(3)
        pieces[1][1][0] = 2
        pieces[2][1].clear()
        self.assertEqual(self.told(board), wanted)
        pieces[0] = (5, [1], 1)
        pieces.pop()
        ties[0] = 9
        ties.append(3)
        self.assertEqual(self.told(board), wanted)
        pieces.clear()
        ties.clear()
        self.assertEqual(self.told(board), wanted)

    def test_the_lists_told_are_changed(self):
        board = Board(*good_parts())
        wanted = self.told(board)
        pieces = board.pieces()
        for piece in pieces:
            piece[1].append(99)
            piece[1][0] = 77
        self.assertEqual(self.told(board), wanted)
        pieces[0] = None
        pieces.pop()
        for told in (board.pieces(), board.ties(), board.columns(), board.depths()):
            told.append(5)
            told[0] = 3
            self.assertEqual(self.told(board), wanted)
            told.clear()
            self.assertEqual(self.told(board), wanted)

    def test_what_is_asked_later_changes_no_list(self):
        board = Board(*good_parts())
        kept = (board.many, board.pieces(), board.ties(), board.columns(), board.depths())
        wanted = copy.deepcopy(kept)
        self.told(board)
        self.told(Board(1, [(2, [1], 1)], [4]))
        self.assertEqual(kept, wanted)
        again = board.pieces()
        kept[1][0][1].clear()
        self.assertEqual(again, PIECES)

    def test_two_boards_of_the_same_lists(self):
        many, pieces, ties = good_parts()
        one = Board(many, pieces, ties)
        other = Board(many, pieces, ties)
        wanted = self.told(other)
        one.pieces()[0][1].clear()
        one.ties().clear()
        self.assertEqual(self.told(other), wanted)
        self.assertEqual((many, pieces, ties), good_parts())

    def test_a_board_of_what_another_one_told(self):
        many, pieces, ties = made_board(4, 30, 6, "another")
        board = Board(many, pieces, ties)
        other = Board(board.many, board.pieces(), board.ties())
        self.assertEqual(self.told(other), self.told(board))


if __name__ == "__main__":
    unittest.main()
