import itertools
import unittest

from marblerun.board import PIT, Board
from marblerun.errors import NotOpen, TooLong
from marblerun.steps import run, step
from marblerun.tally import tally
from marblerun.ways import is_open
from tests.standing import all_turns, assert_refused, chain, loaded_with, open_rows, small_boards, standing, turned


def marbles_gone(board, numbers):
    # To each site, behind so many steps of each site by its turns, whether marbles lie there or not.
    gone = [0] * len(board.rows)
    for row, turn, many in zip(board.rows, board.turns, numbers):
        for done in range(many):
            way = row[(turn + done) % len(row)]
            if way != PIT:
                gone[way] += 1
    return gone


def is_enough(board, numbers):
    gone = marbles_gone(board, numbers)
    return all(came + lying <= went for came, lying, went in zip(gone, board.loads, numbers))


class TallyTest(unittest.TestCase):
    def assert_tally(self, board, wanted):
        before = standing(board)
        answer = tally(board, sum(wanted))
        self.assertIs(type(answer), list)
        self.assertEqual([type(one) for one in answer], [int] * len(wanted))
        self.assertEqual(answer, wanted)
        self.assertEqual(standing(board), before)

    def test_without_marbles(self):
        for rows in open_rows():
            self.assert_tally(Board(rows), [0] * len(rows))

    def test_with_marbles(self):
        self.assert_tally(loaded_with([[PIT]], [1]), [1])
        self.assert_tally(loaded_with([[PIT]], [400]), [400])
        self.assert_tally(loaded_with([[0, PIT]], [3]), [6])
        self.assert_tally(loaded_with([[1], [2], [PIT]], [2, 0, 5]), [2, 2, 7])
        self.assert_tally(loaded_with([[1, PIT], [0, 1, PIT]], [1, 1]), [2, 3])
        self.assert_tally(loaded_with([[at + 1] for at in range(11)] + [[PIT]], [1] * 12), list(range(1, 13)))

    def test_from_other_turns(self):
        self.assert_tally(self.board_at([[0, 0, PIT]], [1], [1]), [2])
        self.assert_tally(self.board_at([[0, 0, PIT]], [2], [1]), [1])
        self.assert_tally(self.board_at([[1, PIT], [0, PIT]], [1, 0], [0, 1]), [1, 1])

    def board_at(self, rows, turns, loads):
        board = turned(rows, turns)
        for at, many in enumerate(loads):
            board.load(at, many)
        return board

    def test_with_steps_done_before(self):
        board = loaded_with([[0, 1, PIT], [1, PIT]], [3, 0])
        step(board, 0)
        step(board, 0)
        self.assert_tally(board, [3, 4])
        run(board, 20000)
        self.assertEqual(board.steps, [5, 4])
        self.assert_tally(board, [0, 0])
        board.load(1, 1)
        self.assert_tally(board, [0, 2])

    def test_the_run_has_just_these_steps(self):
        for rows in open_rows():
            for loads in ([3] + [0] * (len(rows) - 1), [0] * (len(rows) - 1) + [2], [1] * len(rows)):
                board = loaded_with(rows, loads)
                step(board, min(at for at in range(len(rows)) if loads[at] > 0))
                with self.subTest(rows=rows, loads=loads):
                    first = list(board.steps)
                    answer = tally(board, 20000)
                    self.assertEqual(run(board, 20000), sum(answer))
                    self.assertEqual(board.steps, [one + more for one, more in zip(first, answer)])

    def test_it_is_the_least_row(self):
        choices = list(itertools.product(range(8), repeat=2))
        for board in small_boards():
            if is_open(board):
                board.load(0, 1)
                board.load(1, 2)
                with self.subTest(board=standing(board)):
                    answer = tally(board, 20000)
                    self.assertTrue(is_enough(board, answer))
                    for numbers in choices:
                        if is_enough(board, numbers):
                            self.assertTrue(all(one >= least for one, least in zip(numbers, answer)))

    def test_it_is_the_least_row_of_three_sites(self):
        rows = [[1, 2], [2, 0, PIT], [0, 2, 1]]
        choices = list(itertools.product(range(9), repeat=3))
        for turns in all_turns(rows):
            board = self.board_at(rows, turns, [1, 0, 0])
            answer = tally(board, 20000)
            self.assertTrue(is_enough(board, answer))
            for numbers in choices:
                if is_enough(board, numbers):
                    self.assertTrue(all(one >= least for one, least in zip(numbers, answer)))

    def test_just_as_many_as_the_numbers_come_to_and_one_less(self):
        for rows in open_rows():
            for loads in ([1] + [0] * (len(rows) - 1), [2] * len(rows)):
                board = loaded_with(rows, loads)
                answer = tally(board, 20000)
                with self.subTest(rows=rows, loads=loads):
                    assert_refused(self, TooLong, board, tally, sum(answer) - 1)
                    assert_refused(self, TooLong, board, tally, 0)
                    self.assert_tally(board, answer)

    def test_the_numbers_together_count_and_no_one_of_them(self):
        board = loaded_with([[1], [2], [PIT]], [1, 0, 0])
        assert_refused(self, TooLong, board, tally, 2)
        self.assert_tally(board, [1, 1, 1])

    def test_steps_done_before_count_for_nothing(self):
        board = loaded_with([[PIT]], [300])
        run(board, 300)
        board.load(0, 2)
        assert_refused(self, TooLong, board, tally, 1)
        self.assert_tally(board, [2])

    def test_no_step_allowed(self):
        self.assert_tally(Board([[1, PIT], [0, PIT]]), [0, 0])
        assert_refused(self, TooLong, loaded_with([[PIT]], [1]), tally, 0)

    def test_the_greatest_tally_that_may_be(self):
        rows = [[at] * 7 + [at + 1] for at in range(6)] + [[6, PIT]]
        board = loaded_with(rows, [400] + [0] * 6)
        assert_refused(self, TooLong, board, tally, 19999)
        self.assert_tally(board, [3200] * 6 + [800])

    def test_a_very_great_one_is_refused(self):
        board = loaded_with(chain([7] * 12), [400] + [0] * 11)
        assert_refused(self, TooLong, board, tally, 20000)

    def test_rows_that_are_not_open_are_refused(self):
        for rows in ([[0]], [[1], [0]], [[PIT], [1]], [[1, PIT], [1, 1]], [[PIT]] * 11 + [[11]]):
            for many in (0, 1, 3):
                board = loaded_with(rows, [many] + [0] * (len(rows) - 1))
                for most in (20000, 2, 0):
                    with self.subTest(rows=rows, many=many, most=most):
                        assert_refused(self, NotOpen, board, tally, most)

    def test_the_answer_is_the_askers_own(self):
        board = loaded_with([[1, PIT], [0, 1, PIT]], [1, 1])
        before = standing(board)
        answer = tally(board, 20000)
        answer[0] = 77
        answer.append(5)
        self.assertEqual(standing(board), before)
        self.assertEqual(tally(board, 20000), [2, 3])
        run(board, 20000)
        self.assertEqual(answer, [77, 3, 5])
        self.assertEqual(board.steps, [2, 3])

    def test_an_answer_of_noughts_is_the_askers_own(self):
        board = Board([[1, PIT], [PIT]])
        answer = tally(board, 0)
        answer[1] = 9
        self.assertEqual(standing(board), standing(Board([[1, PIT], [PIT]])))
        self.assertEqual(tally(board, 0), [0, 0])

    def test_a_board_and_its_twin(self):
        board = loaded_with([[1, PIT], [0, 1, PIT]], [1, 1])
        twin = board.twin()
        run(board, 20000)
        self.assertEqual(tally(twin, 20000), [2, 3])
        self.assertEqual(tally(board, 20000), [0, 0])


if __name__ == "__main__":
    unittest.main()
