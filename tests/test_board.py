import unittest

from marblerun.board import PIT, Board
from marblerun.errors import NoExit, NoPlace, NoSite, TooMany
from tests.standing import standing

WRONG_SITES = (-13, -4, -3, -2, -1, 3, 4, 12)


def three():
    return Board([[1, 2, PIT], [PIT], [2, 0, 1, PIT]])


class Checks(unittest.TestCase):
    def assert_refused(self, refusal, board, deed, *arguments):
        before = standing(board)
        with self.assertRaises(refusal):
            deed(*arguments)
        self.assertEqual(standing(board), before)


class MadeTest(Checks):
    def test_the_pit_is_minus_one(self):
        self.assertEqual(PIT, -1)
        self.assertIs(type(PIT), int)

    def test_rows_stand_as_told(self):
        self.assertEqual(three().rows, [[1, 2, -1], [-1], [2, 0, 1, -1]])

    def test_fields_are_lists_of_lists_and_numbers(self):
        board = three()
        for field in [board.rows, *board.rows, board.turns, board.loads, board.steps]:
            self.assertIs(type(field), list)
        self.assertIs(type(board.taken), int)

    def test_all_is_nought_on_a_new_board(self):
        board = three()
        self.assertEqual(board.turns, [0, 0, 0])
        self.assertEqual(board.loads, [0, 0, 0])
        self.assertEqual(board.steps, [0, 0, 0])
        self.assertEqual(board.taken, 0)

    def test_one_to_twelve_rows(self):
        for sites in range(1, 13):
            with self.subTest(sites=sites):
                board = Board([[PIT] for at in range(sites)])
                self.assertEqual(board.rows, [[-1]] * sites)
                self.assertEqual(board.turns, [0] * sites)
                self.assertEqual(board.loads, [0] * sites)
                self.assertEqual(board.steps, [0] * sites)

    def test_no_row_and_more_than_twelve_are_refused(self):
        for sites in (0, 13, 14, 30):
            with self.subTest(sites=sites), self.assertRaises(NoSite):
                Board([[PIT] for at in range(sites)])

    def test_one_to_eight_exits(self):
        for exits in range(1, 9):
            with self.subTest(exits=exits):
                self.assertEqual(Board([[PIT], [0] * exits]).rows, [[-1], [0] * exits])

    def test_no_exit_and_more_than_eight_are_refused_in_each_row(self):
        for exits in (0, 9, 10, 30):
            for at in range(3):
                rows = [[PIT], [PIT], [PIT]]
                rows[at] = [PIT] * exits
                with self.subTest(exits=exits, at=at), self.assertRaises(NoExit):
                    Board(rows)

    def test_exits_lead_to_each_site_and_the_pit(self):
        for sites in (1, 2, 12):
            for way in range(-1, sites):
                for at in range(sites):
                    rows = [[PIT] for row in range(sites)]
                    rows[at] = [PIT, way]
                    with self.subTest(sites=sites, way=way, at=at):
                        self.assertEqual(Board(rows).rows, rows)

    def test_other_exits_are_refused_in_each_row_and_place(self):
        for way in (3, 4, 12, 400, -2, -3, -4):
            for at in range(3):
                for place in range(3):
                    rows = [[0, 1, PIT], [1, 2, PIT], [2, 0, PIT]]
                    rows[at][place] = way
                    with self.subTest(way=way, at=at, place=place), self.assertRaises(NoExit):
                        Board(rows)

    def test_exits_are_bound_by_the_number_of_sites(self):
        with self.assertRaises(NoExit):
            Board([[1]])
        with self.assertRaises(NoExit):
            Board([[PIT]] * 11 + [[12]])
        self.assertEqual(Board([[PIT]] * 11 + [[11]]).rows[11], [11])

    def test_too_many_rows_are_told_ahead_of_a_wrong_exit(self):
        for row in ([13], [-2], [], [PIT] * 9):
            for at in (0, 12):
                rows = [[PIT] for site in range(13)]
                rows[at] = row
                with self.subTest(row=row, at=at), self.assertRaises(NoSite):
                    Board(rows)

    def test_refused_rows_are_not_changed(self):
        for rows in ([], [[PIT]] * 13, [[PIT], []], [[PIT], [0, 2]], [[PIT] * 9]):
            before = [list(row) for row in rows]
            with self.assertRaises((NoSite, NoExit)):
                Board(rows)
            self.assertEqual(rows, before)


class KeptApartTest(Checks):
    def test_what_is_handed_in_is_not_changed(self):
        rows = [[1, PIT], [0]]
        board = Board(rows)
        board.turn_to(0, 1)
        board.load(1, 5)
        board.twin()
        self.assertEqual(rows, [[1, PIT], [0]])

    def test_what_is_handed_in_is_not_kept(self):
        rows = [[1, PIT], [0]]
        board = Board(rows)
        before = standing(board)
        rows[0][0] = 0
        rows[1].append(PIT)
        rows.append([7])
        self.assertEqual(standing(board), before)
        rows.clear()
        self.assertEqual(standing(board), before)

    def test_one_list_handed_in_as_several_rows_makes_several_rows(self):
        board = Board([[PIT, 0]] * 3)
        self.assertEqual(len({id(row) for row in board.rows}), 3)

    def test_no_two_fields_are_one_list(self):
        board = three()
        lists = [board.rows, *board.rows, board.turns, board.loads, board.steps]
        self.assertEqual(len({id(field) for field in lists}), len(lists))

    def test_two_boards_of_the_same_rows_stand_side_by_side(self):
        rows = [[1, PIT], [0, PIT]]
        left = Board(rows)
        right = Board(rows)
        new = standing(right)
        left.turn_to(0, 1)
        left.load(1, 400)
        self.assertEqual(standing(right), new)
        turned = standing(left)
        right.load(0, 400)
        right.turn_to(1, 1)
        self.assertEqual(standing(left), turned)
        self.assertEqual(standing(right), (((1, -1), (0, -1)), (0, 1), (400, 0), (0, 0), 0))


class TurnTest(Checks):
    def test_each_place_of_each_row(self):
        for at, places in enumerate((3, 1, 4)):
            for place in range(places):
                with self.subTest(at=at, place=place):
                    board = three()
                    self.assertIsNone(board.turn_to(at, place))
                    turns = [0, 0, 0]
                    turns[at] = place
                    rows = ((1, 2, -1), (-1,), (2, 0, 1, -1))
                    self.assertEqual(standing(board), (rows, tuple(turns), (0, 0, 0), (0, 0, 0), 0))

    def test_a_turn_is_set_and_not_added(self):
        board = three()
        for place in (3, 1, 1, 2, 0):
            board.turn_to(2, place)
            self.assertEqual(board.turns, [0, 0, place])

    def test_eight_places(self):
        board = Board([[PIT] * 8])
        board.turn_to(0, 7)
        self.assertEqual(board.turns, [7])
        self.assert_refused(NoPlace, board, board.turn_to, 0, 8)

    def test_places_below_nought_and_beyond_the_row_are_refused(self):
        board = three()
        board.turn_to(0, 1)
        board.turn_to(2, 3)
        for at, places in enumerate((3, 1, 4)):
            for place in (-9, -places, -2, -1, places, places + 1, 30):
                with self.subTest(at=at, place=place):
                    self.assert_refused(NoPlace, board, board.turn_to, at, place)

    def test_a_number_that_no_site_has_is_refused(self):
        board = three()
        board.turn_to(2, 3)
        for at in WRONG_SITES:
            with self.subTest(at=at):
                self.assert_refused(NoSite, board, board.turn_to, at, 0)

    def test_no_site_is_told_ahead_of_no_place(self):
        board = three()
        for at in WRONG_SITES:
            for place in (-1, 4, 8):
                with self.subTest(at=at, place=place):
                    self.assert_refused(NoSite, board, board.turn_to, at, place)


class LoadTest(Checks):
    def test_marbles_come_to_those_that_lie(self):
        board = three()
        self.assertIsNone(board.load(1, 5))
        self.assertIsNone(board.load(1, 2))
        self.assertIsNone(board.load(2, 1))
        rows = ((1, 2, -1), (-1,), (2, 0, 1, -1))
        self.assertEqual(standing(board), (rows, (0, 0, 0), (0, 7, 1), (0, 0, 0), 0))

    def test_a_load_of_nought_changes_nothing(self):
        board = three()
        board.load(0, 3)
        before = standing(board)
        for at in range(3):
            self.assertIsNone(board.load(at, 0))
        self.assertEqual(standing(board), before)

    def test_up_to_400_on_one_site(self):
        board = three()
        board.load(2, 400)
        self.assertEqual(board.loads, [0, 0, 400])

    def test_up_to_400_together(self):
        board = three()
        board.load(0, 200)
        board.load(1, 199)
        board.load(2, 1)
        self.assertEqual(board.loads, [200, 199, 1])
        self.assertIsNone(board.load(1, 0))

    def test_more_than_400_on_one_site_is_refused(self):
        board = three()
        for many in (401, 402, 1000):
            with self.subTest(many=many):
                self.assert_refused(TooMany, board, board.load, 0, many)

    def test_more_than_400_together_is_refused_on_each_site(self):
        board = three()
        board.load(0, 150)
        board.load(2, 249)
        for at in range(3):
            for many in (2, 151, 400, 1000):
                with self.subTest(at=at, many=many):
                    self.assert_refused(TooMany, board, board.load, at, many)
        board.load(1, 1)
        for at in range(3):
            with self.subTest(at=at):
                self.assert_refused(TooMany, board, board.load, at, 1)

    def test_a_board_takes_marbles_behind_a_refusal(self):
        board = three()
        self.assert_refused(TooMany, board, board.load, 1, 401)
        board.load(1, 400)
        self.assertEqual(board.loads, [0, 400, 0])

    def test_a_number_that_no_site_has_is_refused(self):
        board = three()
        board.load(2, 3)
        for at in WRONG_SITES:
            for many in (0, 1):
                with self.subTest(at=at, many=many):
                    self.assert_refused(NoSite, board, board.load, at, many)

    def test_no_site_is_told_ahead_of_too_many(self):
        board = three()
        for at in WRONG_SITES:
            with self.subTest(at=at):
                self.assert_refused(NoSite, board, board.load, at, 401)


class TwinTest(Checks):
    def used(self):
        board = three()
        board.turn_to(0, 2)
        board.turn_to(2, 1)
        board.load(0, 150)
        board.load(1, 250)
        # No deed of these files moves a marble, so counts and takings are set here.
        board.steps[1] = 7
        board.taken = 9
        return board

    def test_a_twin_stands_alike(self):
        board = self.used()
        rows = ((1, 2, -1), (-1,), (2, 0, 1, -1))
        before = (rows, (2, 0, 1), (150, 250, 0), (0, 7, 0), 9)
        other = board.twin()
        self.assertIsInstance(other, Board)
        self.assertIsNot(other, board)
        self.assertEqual(standing(other), before)
        self.assertEqual(standing(board), before)

    def test_a_twin_of_a_new_board_and_of_a_twin(self):
        self.assertEqual(standing(three().twin()), standing(three()))
        self.assertEqual(standing(self.used().twin().twin()), standing(self.used()))

    def test_no_list_is_one_with_the_twins(self):
        board = self.used()
        other = board.twin()
        lists = []
        for one in (board, other):
            lists.extend([one.rows, *one.rows, one.turns, one.loads, one.steps])
        self.assertEqual(len({id(field) for field in lists}), len(lists))

    def test_neither_is_changed_with_the_other(self):
        for first in (True, False):
            left = three()
            left.load(0, 3)
            right = left.twin()
            changed, still = (left, right) if first else (right, left)
            before = standing(still)
            changed.turn_to(2, 3)
            changed.load(1, 397)
            with self.subTest(first=first):
                self.assertEqual(standing(still), before)
                self.assertEqual(changed.turns, [0, 0, 3])
                self.assertEqual(changed.loads, [3, 397, 0])
                still.load(2, 397)
                self.assertEqual(changed.loads, [3, 397, 0])


if __name__ == "__main__":
    unittest.main()
