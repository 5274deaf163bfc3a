import unittest

from marblerun.board import PIT, Board
from marblerun.errors import NoSite
from marblerun.ways import is_open, is_tree, last_exit, reached
from tests.standing import small_boards, small_rows, standing, turned


def comes_to_pit(rows, at, seen=()):
    if at == PIT:
        return True
    if at in seen:
        return False
    return any(comes_to_pit(rows, way, seen + (at,)) for way in rows[at])


def falls_by_last_exits(board, at):
    for _ in board.rows:
        row = board.rows[at]
        place = len(row) - 1 if board.turns[at] == 0 else board.turns[at] - 1
        at = row[place]
        if at == PIT:
            return True
    return False


class ReachedTest(unittest.TestCase):
    def assert_reached(self, rows, wanted):
        answer = reached(rows)
        self.assertIs(type(answer), list)
        self.assertEqual([type(one) for one in answer], [bool] * len(wanted))
        self.assertEqual(answer, wanted)

    def test_one_site(self):
        self.assert_reached([[PIT]], [True])
        self.assert_reached([[0]], [False])
        self.assert_reached([[0, PIT]], [True])
        self.assert_reached([[PIT, 0]], [True])
        self.assert_reached([[0] * 8], [False])
        self.assert_reached([[0] * 7 + [PIT]], [True])

    def test_through_other_sites_in_either_order(self):
        self.assert_reached([[1], [2], [PIT]], [True, True, True])
        self.assert_reached([[PIT], [0], [1]], [True, True, True])
        self.assert_reached([[2], [PIT], [1]], [True, True, True])

    def test_the_longest_ways(self):
        up = [[at + 1] for at in range(11)] + [[PIT]]
        down = [[PIT]] + [[at] for at in range(11)]
        self.assert_reached(up, [True] * 12)
        self.assert_reached(down, [True] * 12)
        up[11] = [0]
        down[0] = [11]
        self.assert_reached(up, [False] * 12)
        self.assert_reached(down, [False] * 12)

    def test_the_longest_way_through_mixed_numbers(self):
        order = [5, 0, 11, 3, 8, 1, 10, 2, 9, 4, 7, 6]
        rows = [[] for at in order]
        for at, onward in zip(order, order[1:] + [PIT]):
            rows[at] = [at, onward]
        self.assert_reached(rows, [True] * 12)
        rows[3] = [3, 11]
        cut = [True] * 12
        for at in (5, 0, 11, 3):
            cut[at] = False
        self.assert_reached(rows, cut)

    def test_some_sites_only(self):
        self.assert_reached([[PIT], [1]], [True, False])
        self.assert_reached([[1], [0], [PIT, 0]], [False, False, True])
        self.assert_reached([[1, 2], [1], [PIT]], [True, False, True])
        self.assert_reached([[3], [PIT], [1], [4], [3]], [False, True, True, False, False])

    def test_one_exit_among_many_is_enough(self):
        self.assert_reached([[1, 1, 0, 1], [0, 0, 0, 0, 0, 0, 0, PIT]], [True, True])
        self.assert_reached([[0, 0, 1, 0], [PIT, 1]], [True, True])

    def test_the_last_site_is_not_taken_for_the_pit(self):
        self.assert_reached([[1], [1]], [False, False])
        self.assert_reached([[PIT], [1], [2]], [True, False, False])

    def test_each_small_board(self):
        for rows in small_rows():
            with self.subTest(rows=rows):
                self.assert_reached(rows, [comes_to_pit(rows, at) for at in range(2)])

    def test_rows_are_not_changed_and_not_kept(self):
        rows = [[1], [PIT]]
        answer = reached(rows)
        self.assertEqual(rows, [[1], [PIT]])
        rows[1][0] = 0
        self.assertEqual(answer, [True, True])
        self.assertEqual(reached(rows), [False, False])

    def test_the_answer_is_the_askers_own(self):
        board = Board([[1], [PIT]])
        before = standing(board)
        answer = reached(board.rows)
        answer[0] = False
        answer.append(False)
        self.assertEqual(standing(board), before)
        self.assertEqual(reached(board.rows), [True, True])
        self.assertTrue(is_open(board))


class OpenTest(unittest.TestCase):
    def test_open_boards(self):
        for rows in ([[PIT]], [[0, PIT]], [[1], [PIT]], [[1], [0, PIT]], [[1], [2], [0, 0, PIT]], [[PIT]] * 12):
            with self.subTest(rows=rows):
                self.assertIs(is_open(Board(rows)), True)

    def test_boards_that_are_not_open(self):
        for rows in ([[0]], [[1], [0]], [[PIT], [1]], [[1], [1]], [[0], [PIT]], [[PIT], [2], [1]], [[PIT]] * 11 + [[11]]):
            with self.subTest(rows=rows):
                self.assertIs(is_open(Board(rows)), False)

    def test_turns_and_loads_count_for_nothing(self):
        for place in range(3):
            board = turned([[0, 1, PIT], [0, 0, 1]], (place, place))
            board.load(0, place)
            self.assertIs(is_open(board), True)

    def test_each_small_board_is_open_just_where_all_reach_the_pit(self):
        for board in small_boards():
            before = standing(board)
            wanted = comes_to_pit(board.rows, 0) and comes_to_pit(board.rows, 1)
            with self.subTest(board=before):
                self.assertIs(is_open(board), wanted)
                self.assertEqual(standing(board), before)


class LastExitTest(unittest.TestCase):
    def test_of_the_turn_nought_at_the_rows_end(self):
        board = Board([[1, 2, 0], [PIT], [0, 1, 2, PIT], [3, 3, 3, 3, 3, 3, 3, 2]])
        self.assertEqual([last_exit(board, at) for at in range(4)], [0, PIT, PIT, 2])

    def test_of_each_other_turn_at_the_place_ahead(self):
        row = [0, 1, 2, 3, 4, 5, 6, PIT]
        for at in range(7):
            rows = [[PIT] for site in range(7)]
            rows[at] = row
            for place in range(1, 8):
                with self.subTest(at=at, place=place):
                    board = Board(rows)
                    board.turn_to(at, place)
                    self.assertEqual(last_exit(board, at), row[place - 1])

    def test_each_site_by_its_own_turn(self):
        board = turned([[0, 1, 2], [1, 2, PIT], [2, PIT, 0]], (1, 2, 0))
        self.assertEqual([last_exit(board, at) for at in range(3)], [0, 2, 0])

    def test_a_number_that_no_site_has_is_refused(self):
        board = turned([[PIT, 1], [PIT]], (1, 0))
        before = standing(board)
        for at in (-3, -2, -1, 2, 3, 12):
            with self.subTest(at=at):
                with self.assertRaises(NoSite):
                    last_exit(board, at)
                self.assertEqual(standing(board), before)

    def test_the_board_is_not_changed(self):
        board = turned([[PIT, 1], [PIT]], (1, 0))
        board.load(0, 2)
        before = standing(board)
        self.assertEqual([last_exit(board, 0), last_exit(board, 0)], [PIT, PIT])
        self.assertEqual(standing(board), before)


class TreeTest(unittest.TestCase):
    def test_trees(self):
        for rows in ([[PIT]], [[0, PIT]], [[1], [PIT]], [[PIT], [0]], [[2], [0, 2], [0, 1, PIT]], [[PIT]] * 12):
            with self.subTest(rows=rows):
                self.assertIs(is_tree(Board(rows)), True)

    def test_the_longest_ways(self):
        up = [[0, at + 1] for at in range(11)] + [[0, PIT]]
        down = [[11, PIT]] + [[11, at] for at in range(11)]
        for rows in (up, down):
            with self.subTest(rows=rows):
                self.assertIs(is_tree(Board(rows)), True)
        up[11].reverse()
        down[0].reverse()
        for rows in (up, down):
            with self.subTest(rows=rows):
                self.assertIs(is_tree(Board(rows)), False)

    def test_open_boards_that_go_round_by_last_exits(self):
        for rows in (
            [[PIT, 1], [PIT, 0]],
            [[PIT, 1], [PIT, 2], [PIT, 0]],
            [[PIT], [0, 2], [0, 1]],
            [[PIT, 1], [PIT, 0], [1]],
        ):
            with self.subTest(rows=rows):
                board = Board(rows)
                self.assertIs(is_open(board), True)
                self.assertIs(is_tree(board), False)

    def test_exits_to_the_site_itself(self):
        self.assertIs(is_tree(Board([[0]])), False)
        self.assertIs(is_tree(Board([[PIT, 0]])), False)
        self.assertIs(is_tree(turned([[PIT, 0]], (1,))), True)
        self.assertIs(is_tree(turned([[0, PIT]], (1,))), False)
        self.assertIs(is_tree(Board([[PIT], [0, 1]])), False)
        self.assertIs(is_tree(turned([[PIT], [0, 1]], (0, 1))), True)

    def test_a_turn_makes_a_tree_and_unmakes_it(self):
        rows = [[1, PIT], [0, PIT]]
        self.assertIs(is_tree(turned(rows, (0, 0))), True)
        self.assertIs(is_tree(turned(rows, (1, 0))), True)
        self.assertIs(is_tree(turned(rows, (0, 1))), True)
        self.assertIs(is_tree(turned(rows, (1, 1))), False)

    def test_loads_count_for_nothing(self):
        board = Board([[1, PIT], [0, PIT]])
        board.load(0, 400)
        self.assertIs(is_tree(board), True)

    def test_each_small_board(self):
        for board in small_boards():
            before = standing(board)
            wanted = falls_by_last_exits(board, 0) and falls_by_last_exits(board, 1)
            with self.subTest(board=before):
                self.assertIs(is_tree(board), wanted)
                self.assertEqual(standing(board), before)

    def test_each_small_tree_is_open(self):
        trees = [board for board in small_boards() if is_tree(board)]
        self.assertTrue(trees)
        for board in trees:
            with self.subTest(board=standing(board)):
                self.assertTrue(is_open(board))


if __name__ == "__main__":
    unittest.main()
