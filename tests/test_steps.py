import unittest
from unittest import mock

from marblerun import steps
from marblerun.board import PIT, Board
from marblerun.errors import NoMarble, NoSite, NotOpen, TooLong
from marblerun.steps import run, step
from marblerun.ways import is_open
from tests.standing import all_turns, assert_refused, chain, loaded_with, open_rows, small_boards, standing, turned


def run_by_hand(board):
    # The run as the document tells it, with no help of the program; gives the end and the sites in their order.
    rows, turns, loads, counts, taken = standing(board)
    turns, loads, counts = list(turns), list(loads), list(counts)
    order = []
    while sum(loads) > 0:
        at = min(site for site in range(len(rows)) if loads[site] > 0)
        way = rows[at][turns[at]]
        loads[at] -= 1
        if way == -1:
            taken += 1
        else:
            loads[way] += 1
        turns[at] += 1
        if turns[at] == len(rows[at]):
            turns[at] = 0
        counts[at] += 1
        order.append(at)
    return (rows, tuple(turns), tuple(loads), tuple(counts), taken), order


def loaded_sites(board):
    return [at for at, many in enumerate(board.loads) if many > 0]


def step_to_the_end(board, choose):
    done = 0
    while sum(board.loads) > 0:
        step(board, choose(loaded_sites(board), done))
        done += 1
    return done


OTHER_ORDERS = (
    lambda sites, done: sites[-1],
    lambda sites, done: sites[done % len(sites)],
    lambda sites, done: sites[done * done // 3 % len(sites)],
    lambda sites, done: sites[len(sites) // 2],
)


class StepTest(unittest.TestCase):
    def test_each_exit_of_a_row_in_turn(self):
        row = [0, 1, 2, PIT, 1, PIT, 2, 0]
        board = loaded_with([row, [PIT], [PIT]], [20, 0, 0])
        loads, taken = [20, 0, 0], 0
        for done in range(16):
            way = row[done % 8]
            loads[0] -= 1
            if way == PIT:
                taken += 1
            else:
                loads[way] += 1
            with self.subTest(done=done):
                answer = step(board, 0)
                self.assertIs(type(answer), int)
                self.assertEqual(answer, way)
                self.assertEqual(board.turns, [(done + 1) % 8, 0, 0])
                self.assertEqual(board.loads, loads)
                self.assertEqual(board.steps, [done + 1, 0, 0])
                self.assertEqual(board.taken, taken)
        self.assertEqual(board.rows, [row, [PIT], [PIT]])

    def test_behind_the_last_exit_comes_the_turn_nought(self):
        for many in range(1, 9):
            board = turned([[PIT] * many], [many - 1])
            board.load(0, 1)
            step(board, 0)
            self.assertEqual(board.turns, [0])

    def test_to_the_pit(self):
        board = loaded_with([[0], [PIT, 0]], [0, 3])
        self.assertEqual(step(board, 1), PIT)
        self.assertEqual(standing(board), (((0,), (PIT, 0)), (0, 1), (0, 2), (0, 1), 1))

    def test_to_another_site(self):
        board = loaded_with([[0], [0, PIT]], [2, 1])
        self.assertEqual(step(board, 1), 0)
        self.assertEqual(standing(board), (((0,), (0, PIT)), (0, 1), (3, 0), (0, 1), 0))

    def test_to_the_last_site(self):
        board = loaded_with([[2], [PIT], [PIT]], [1, 0, 0])
        self.assertEqual(step(board, 0), 2)
        self.assertEqual(standing(board), (((2,), (PIT,), (PIT,)), (0, 0, 0), (0, 0, 1), (1, 0, 0), 0))

    def test_to_the_site_itself(self):
        board = loaded_with([[0, PIT]], [1])
        self.assertEqual(step(board, 0), 0)
        self.assertEqual(standing(board), (((0, PIT),), (1,), (1,), (1,), 0))
        self.assertEqual(step(board, 0), PIT)
        self.assertEqual(standing(board), (((0, PIT),), (0,), (0,), (2,), 1))

    def test_by_the_turn_that_was_told(self):
        row = [0, 1, 2, 3, 4, 5, 6, PIT]
        for place, way in enumerate(row):
            board = Board([[PIT] for site in range(6)] + [row])
            board.turn_to(6, place)
            board.load(6, 2)
            self.assertEqual(step(board, 6), way)
            self.assertEqual(board.turns, [0] * 6 + [(place + 1) % 8])
            self.assertEqual(board.steps, [0] * 6 + [1])

    def test_a_board_that_is_not_open_has_steps_too(self):
        board = loaded_with([[0]], [1])
        self.assertEqual([step(board, 0) for again in range(5)], [0] * 5)
        self.assertEqual(standing(board), (((0,),), (0,), (1,), (5,), 0))

    def test_a_full_board_has_steps_too(self):
        board = loaded_with([[1, PIT], [0, PIT]], [399, 1])
        self.assertEqual([step(board, 1), step(board, 0)], [0, 1])
        self.assertEqual(board.loads, [399, 1])

    def test_a_site_without_a_marble_is_refused(self):
        board = loaded_with([[1, PIT], [PIT], [0]], [0, 1, 0])
        board.turn_to(0, 1)
        assert_refused(self, NoMarble, board, step, 0)
        assert_refused(self, NoMarble, board, step, 2)
        step(board, 1)
        for at in range(3):
            assert_refused(self, NoMarble, board, step, at)

    def test_a_number_that_no_site_has_is_refused(self):
        board = loaded_with([[1, PIT], [PIT]], [2, 3])
        for at in (-3, -2, -1, 2, 3, 12):
            with self.subTest(at=at):
                assert_refused(self, NoSite, board, step, at)

    def test_where_neither_site_nor_marble_is_there_the_site_is_refused(self):
        board = Board([[1, PIT], [PIT]])
        for at in (-3, -2, -1, 2, 3, 12):
            with self.subTest(at=at):
                assert_refused(self, NoSite, board, step, at)

    def test_a_step_behind_a_refusal_goes_as_if_there_was_none(self):
        board = loaded_with([[1, PIT], [PIT]], [2, 0])
        other = board.twin()
        assert_refused(self, NoMarble, board, step, 1)
        assert_refused(self, NoSite, board, step, -1)
        self.assertEqual(step(board, 0), step(other, 0))
        self.assertEqual(standing(board), standing(other))

    def test_a_board_and_its_twin_and_a_third_of_the_same_rows(self):
        rows = [[1, PIT], [PIT, 0]]
        board = loaded_with(rows, [2, 1])
        third = loaded_with(rows, [2, 1])
        twin = board.twin()
        before = standing(twin)
        step(board, 0)
        step(board, 1)
        self.assertEqual(standing(twin), before)
        self.assertEqual(standing(third), before)
        after = standing(board)
        step(twin, 0)
        step(twin, 0)
        self.assertEqual(standing(board), after)
        self.assertEqual(standing(third), before)
        self.assertEqual(rows, [[1, PIT], [PIT, 0]])


class RunTest(unittest.TestCase):
    def assert_run(self, board, wanted):
        end, order = run_by_hand(board)
        self.assertEqual(len(order), wanted)
        answer = run(board, wanted)
        self.assertIs(type(answer), int)
        self.assertEqual(answer, wanted)
        self.assertEqual(standing(board), end)
        self.assertEqual(sum(board.loads), 0)

    def test_one_site(self):
        for many in (1, 2, 7, 400):
            self.assert_run(loaded_with([[PIT]], [many]), many)
            self.assert_run(loaded_with([[0, PIT]], [many]), 2 * many)
            self.assert_run(loaded_with([[PIT, 0]], [many]), 2 * many - 1)
            self.assert_run(loaded_with([[0] * 7 + [PIT]], [many]), 8 * many)

    def test_two_sites_told_whole(self):
        board = loaded_with([[1, PIT], [0, 1, PIT]], [1, 1])
        self.assertEqual(run(board, 100), 5)
        self.assertEqual(standing(board), (((1, PIT), (0, 1, PIT)), (0, 0), (0, 0), (2, 3), 2))

    def test_twelve_sites(self):
        self.assert_run(loaded_with([[at + 1] for at in range(11)] + [[PIT]], [1] + [0] * 11), 12)
        self.assert_run(loaded_with([[at + 1] for at in range(11)] + [[PIT]], [400] + [0] * 11), 4800)
        self.assert_run(loaded_with([[PIT]] + [[at] for at in range(11)], [1] * 12), 78)
        self.assert_run(loaded_with(chain([1] * 12), [1] + [0] * 11), 156)
        self.assert_run(loaded_with([[PIT]] * 12, [33] * 11 + [37]), 400)

    def test_no_marble(self):
        for rows in open_rows():
            board = Board(rows)
            before = standing(board)
            self.assertEqual(run(board, 20000), 0)
            self.assertEqual(run(board, 0), 0)
            self.assertEqual(standing(board), before)

    def test_one_marble_on_each_site_of_each_board(self):
        for rows in open_rows():
            for at in range(len(rows)):
                with self.subTest(rows=rows, at=at):
                    board = Board(rows)
                    board.load(at, 1)
                    self.assert_run(board, len(run_by_hand(board)[1]))
                    self.assertEqual(board.taken, 1)

    def test_each_small_board(self):
        for board in small_boards():
            if is_open(board):
                with self.subTest(board=standing(board)):
                    board.load(0, 3)
                    board.load(1, 2)
                    self.assert_run(board, len(run_by_hand(board)[1]))
                    self.assertEqual(board.taken, 5)

    def test_steps_done_before_are_no_steps_of_the_run(self):
        board = loaded_with([[0, 1, PIT], [1, PIT]], [3, 0])
        step(board, 0)
        step(board, 0)
        self.assert_run(board, 7)
        self.assertEqual(board.steps, [5, 4])
        board.load(1, 1)
        self.assert_run(board, 2)
        self.assertEqual(board.steps, [5, 6])
        self.assertEqual(board.taken, 4)

    def test_a_run_done_again_has_no_step(self):
        board = loaded_with([[1, PIT], [0, 1, PIT]], [5, 2])
        self.assertGreater(run(board, 20000), 0)
        before = standing(board)
        for most in (20000, 1, 0):
            self.assertEqual(run(board, most), 0)
            self.assertEqual(standing(board), before)

    def test_the_least_site_steps_first(self):
        for rows in open_rows():
            board = loaded_with(rows, [2] * len(rows))
            order = run_by_hand(board)[1]
            with mock.patch.object(steps, "step", side_effect=step) as spy:
                run(board, 20000)
            self.assertEqual([call.args[1] for call in spy.call_args_list], order)


class RunLengthTest(unittest.TestCase):
    def test_just_as_many_steps_as_the_run_has_and_one_less(self):
        for rows in open_rows():
            for loads in ([1] + [0] * (len(rows) - 1), [2] * len(rows)):
                board = loaded_with(rows, loads)
                end, order = run_by_hand(board)
                with self.subTest(rows=rows, loads=loads):
                    assert_refused(self, TooLong, board, run, len(order) - 1)
                    assert_refused(self, TooLong, board, run, 0)
                    self.assertEqual(run(board, len(order)), len(order))
                    self.assertEqual(standing(board), end)

    def test_every_number_below_is_too_little(self):
        board = loaded_with(chain([1, 2, 0]), [2, 1, 1])
        for most in range(len(run_by_hand(board)[1])):
            assert_refused(self, TooLong, board, run, most)

    def test_one_step(self):
        board = loaded_with([[PIT]], [1])
        assert_refused(self, TooLong, board, run, 0)
        self.assertEqual(run(board, 1), 1)

    def test_the_longest_run_that_may_be(self):
        # A marble has fifty steps here.
        rows = [[at] * 7 + [at + 1] for at in range(6)] + [[6, PIT]]
        board = loaded_with(rows, [400] + [0] * 6)
        assert_refused(self, TooLong, board, run, 19999)
        self.assertEqual(run(board, 20000), 20000)
        self.assertEqual(board.steps, [3200] * 6 + [800])
        self.assertEqual(board.taken, 400)

    def test_somewhat_more_than_may_be_told(self):
        rows = [[at] * 7 + [at + 1] for at in range(6)] + [[6, 6, PIT]]
        board = loaded_with(rows, [400] + [0] * 6)
        assert_refused(self, TooLong, board, run, 20000)
        self.assertEqual(run(board, 20400), 20400)

    def test_a_very_long_run_is_refused(self):
        board = loaded_with(chain([7] * 12), [400] + [0] * 11)
        assert_refused(self, TooLong, board, run, 20000)

    def test_what_stood_before_stands_behind_a_refusal(self):
        board = turned([[1, 0, PIT], [0, 0, PIT]], [1, 2])
        board.load(0, 4)
        step(board, 0)
        step(board, 0)
        self.assertEqual((board.taken, board.steps), (1, [2, 0]))
        for most in range(4):
            assert_refused(self, TooLong, board, run, most)
        other = board.twin()
        self.assertEqual(run(board, 20000), run(other, 20000))
        self.assertEqual(standing(board), standing(other))


class RunOpenTest(unittest.TestCase):
    ROWS = ([[0]], [[1], [0]], [[PIT], [1]], [[1, PIT], [1, 1]], [[PIT]] * 11 + [[11]])

    def test_a_board_that_is_not_open_is_refused_without_marbles(self):
        for rows in self.ROWS:
            for most in (20000, 1, 0):
                with self.subTest(rows=rows, most=most):
                    assert_refused(self, NotOpen, Board(rows), run, most)

    def test_a_board_that_is_not_open_is_refused_with_marbles(self):
        for rows in self.ROWS:
            for at in range(len(rows)):
                # A marble that would fall into the pit is refused as well: the board is what is not open.
                board = Board(rows)
                board.load(at, 3)
                for most in (20000, 3, 1, 0):
                    with self.subTest(rows=rows, at=at, most=most):
                        assert_refused(self, NotOpen, board, run, most)

    def test_where_the_run_would_be_too_long_too_the_board_is_refused(self):
        board = loaded_with([[PIT], [1]], [5, 0])
        assert_refused(self, NotOpen, board, run, 4)
        assert_refused(self, NotOpen, board, run, 0)

    def test_each_small_board_runs_just_where_it_is_open(self):
        for board in small_boards():
            board.load(0, 1)
            board.load(1, 1)
            with self.subTest(board=standing(board)):
                if is_open(board):
                    self.assertGreater(run(board, 20000), 0)
                else:
                    assert_refused(self, NotOpen, board, run, 20000)


class OrderTest(unittest.TestCase):
    def test_other_orders_lead_to_the_same_end(self):
        for rows in open_rows():
            for loads in ([3] + [0] * (len(rows) - 1), [0] * (len(rows) - 1) + [2], [1] * len(rows)):
                board = loaded_with(rows, loads)
                other_boards = [board.twin() for choose in OTHER_ORDERS]
                done = run(board, 20000)
                for other, choose in zip(other_boards, OTHER_ORDERS):
                    with self.subTest(rows=rows, loads=loads):
                        self.assertEqual(step_to_the_end(other, choose), done)
                        self.assertEqual(standing(other), standing(board))

    def test_from_each_turn(self):
        rows = [[1, 2], [2, 0, PIT], [0, 2, 1]]
        for turns in all_turns(rows):
            board = turned(rows, turns)
            for at in range(3):
                board.load(at, 2)
            other = board.twin()
            run(board, 20000)
            step_to_the_end(other, OTHER_ORDERS[0])
            self.assertEqual(standing(other), standing(board))

    def test_some_steps_first_and_then_the_run(self):
        for many in range(6):
            board = loaded_with([[1, PIT], [0, 1, PIT]], [3, 3])
            other = board.twin()
            done = run(board, 20000)
            for again in range(many):
                step(other, loaded_sites(other)[-1])
            self.assertEqual(run(other, 20000), done - many)
            self.assertEqual(standing(other), standing(board))


class RunSideBySideTest(unittest.TestCase):
    def test_a_board_and_its_twin_and_a_third_of_the_same_rows(self):
        rows = [[1, PIT], [0, 1, PIT]]
        board = loaded_with(rows, [4, 1])
        third = loaded_with(rows, [4, 1])
        twin = board.twin()
        before = standing(twin)
        done = run(board, 20000)
        self.assertEqual(standing(twin), before)
        self.assertEqual(standing(third), before)
        after = standing(board)
        self.assertEqual(run(twin, 20000), done)
        self.assertEqual(standing(twin), after)
        twin.load(0, 1)
        run(twin, 20000)
        self.assertEqual(standing(board), after)
        self.assertEqual(standing(third), before)
        self.assertEqual(rows, [[1, PIT], [0, 1, PIT]])

    def test_a_twin_made_behind_a_run_is_changed_by_itself(self):
        board = loaded_with([[1, PIT], [0, 1, PIT]], [4, 1])
        run(board, 20000)
        after = standing(board)
        twin = board.twin()
        twin.load(1, 3)
        run(twin, 20000)
        self.assertEqual(standing(board), after)


if __name__ == "__main__":
    unittest.main()
