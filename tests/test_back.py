import unittest

from marblerun.back import run_back
from marblerun.board import PIT, Board
from marblerun.errors import NoSite, NotBare, NotOpen, NotTree, TooLong
from marblerun.steps import run, step
from marblerun.ways import is_open, is_tree
from tests.standing import all_turns, assert_refused, chain, open_rows, small_rows, standing, turned


def trees_of(rows):
    return [turns for turns in all_turns(rows) if is_tree(turned(rows, turns))]


def led_forth(rows, turns, at):
    board = turned(rows, turns)
    board.load(at, 1)
    done = run(board, 20000)
    return tuple(board.turns), done


def tree_after(rows, marbles):
    # A tree that is not the one of all turns nought, with steps and takings behind it.
    board = Board(rows)
    for done in range(marbles):
        board.load(done % len(rows), 1)
        run(board, 20000)
    return board


class BackTest(unittest.TestCase):
    def assert_way_back(self, board, at):
        rows, turns, loads, counts, taken = standing(board)
        answer = run_back(board, at, 20000)
        self.assertIs(type(answer), int)
        self.assertGreater(answer, 0)
        self.assertEqual(standing(board), (rows, tuple(board.turns), loads, counts, taken))
        self.assertIs(is_tree(board), True)
        self.assertEqual(led_forth(rows, board.turns, at), (turns, answer))

    def test_told_whole(self):
        board = turned([[1, PIT], [0, PIT]], [1, 0])
        self.assertEqual(run_back(board, 0, 100), 2)
        self.assertEqual(standing(board), (((1, PIT), (0, PIT)), (0, 1), (0, 0), (0, 0), 0))

    def test_one_site(self):
        board = Board([[PIT]])
        self.assertEqual(run_back(board, 0, 1), 1)
        self.assertEqual(board.turns, [0])
        board = Board([[0, 0, PIT]])
        self.assertEqual(run_back(board, 0, 3), 3)
        self.assertEqual(board.turns, [0])
        board = turned([[PIT, PIT, 0]], [2])
        self.assertEqual(run_back(board, 0, 1), 1)
        self.assertEqual(board.turns, [1])
        self.assertEqual(run_back(board, 0, 2), 2)
        self.assertEqual(board.turns, [2])

    def test_a_row_all_of_the_pit(self):
        board = turned([[PIT] * 8], [1])
        for place in (0, 7, 6, 5):
            self.assertEqual(run_back(board, 0, 20000), 1)
            self.assertEqual(board.turns, [place])

    def test_from_each_site_of_each_board(self):
        for rows in open_rows():
            for at in range(len(rows)):
                for marbles in (0, 1, 2, 5):
                    with self.subTest(rows=rows, at=at, marbles=marbles):
                        self.assert_way_back(tree_after(rows, marbles), at)

    def test_forth_and_then_back_leads_to_where_it_began(self):
        for rows in open_rows():
            for at in range(len(rows)):
                for marbles in (0, 1, 2, 5):
                    board = tree_after(rows, marbles)
                    turns = list(board.turns)
                    board.load(at, 1)
                    done = run(board, 20000)
                    counts, taken = list(board.steps), board.taken
                    with self.subTest(rows=rows, at=at, marbles=marbles):
                        self.assertEqual(run_back(board, at, 20000), done)
                        self.assertEqual(board.turns, turns)
                        self.assertEqual((board.steps, board.taken), (counts, taken))

    def test_many_times_back(self):
        rows = [[1, 2], [2, 0, PIT], [0, 2, 1]]
        board = Board(rows)
        lengths = []
        for at in (0, 2, 1, 1, 0, 2, 2):
            board.load(at, 1)
            lengths.append(run(board, 20000))
        for at, length in zip((2, 2, 0, 1, 1, 2, 0), reversed(lengths)):
            self.assertEqual(run_back(board, at, length), length)
        self.assertEqual(board.turns, [0, 0, 0])

    def test_there_is_just_one_way_back_and_it_is_found(self):
        three = [[[1, 2], [2, 0, PIT], [0, 2, 1]], [[PIT, 1, 0], [1, 2], [2, 2, PIT, 0]]]
        for rows in small_rows() + three:
            trees = trees_of(rows)
            for at in range(len(rows)):
                ahead = {}
                for turns in trees:
                    end, done = led_forth(rows, turns, at)
                    self.assertNotIn(end, ahead)
                    ahead[end] = (list(turns), done)
                for turns in trees:
                    with self.subTest(rows=rows, turns=turns, at=at):
                        board = turned(rows, turns)
                        done = run_back(board, at, 20000)
                        self.assertEqual((board.turns, done), ahead[turns])

    def test_loads_takings_and_counts_stay(self):
        board = Board([[1, PIT], [0, 1, PIT]])
        board.load(0, 7)
        run(board, 20000)
        counts, taken = list(board.steps), board.taken
        self.assertEqual(taken, 7)
        for at in (1, 0, 1):
            self.assert_way_back(board, at)
            self.assertEqual((board.loads, board.steps, board.taken), ([0, 0], counts, taken))

    def test_a_board_and_its_twin_and_a_third_of_the_same_rows(self):
        rows = [[1, PIT], [0, PIT]]
        board = Board(rows)
        third = Board(rows)
        twin = board.twin()
        before = standing(twin)
        done = run_back(board, 0, 20000)
        self.assertNotEqual(standing(board), before)
        self.assertEqual(standing(twin), before)
        self.assertEqual(standing(third), before)
        after = standing(board)
        self.assertEqual(run_back(twin, 0, 20000), done)
        self.assertEqual(standing(twin), after)
        twin.turn_to(0, 0)
        twin.load(1, 1)
        step(twin, 1)
        self.assertEqual(standing(board), after)
        self.assertEqual(standing(third), before)
        self.assertEqual(rows, [[1, PIT], [0, PIT]])


class BackLengthTest(unittest.TestCase):
    def test_just_as_many_steps_as_that_run_has_and_one_less(self):
        for rows in open_rows():
            for at in range(len(rows)):
                board = tree_after(rows, 2)
                done = run_back(board.twin(), at, 20000)
                with self.subTest(rows=rows, at=at):
                    assert_refused(self, TooLong, board, run_back, at, done - 1)
                    assert_refused(self, TooLong, board, run_back, at, 0)
                    self.assertEqual(run_back(board, at, done), done)

    def test_every_number_below_is_too_little(self):
        board = Board(chain([1, 2, 1]))
        for most in range(run_back(board.twin(), 0, 20000)):
            assert_refused(self, TooLong, board, run_back, 0, most)

    def test_no_step_allowed(self):
        assert_refused(self, TooLong, Board([[PIT]]), run_back, 0, 0)

    def test_the_longest_way_that_may_be(self):
        board = Board(chain([6, 6, 5, 6, 2, 5]))
        assert_refused(self, TooLong, board, run_back, 0, 19999)
        self.assertEqual(run_back(board, 0, 20000), 20000)
        board.load(0, 1)
        self.assertEqual(run(board, 20000), 20000)

    def test_somewhat_more_than_may_be_told(self):
        board = Board(chain([7, 7, 7, 7, 7]))
        assert_refused(self, TooLong, board, run_back, 4, 20000)
        self.assertEqual(run_back(board, 4, 22408), 22408)

    def test_a_very_long_way_is_refused(self):
        board = Board(chain([7] * 12))
        for at in range(12):
            assert_refused(self, TooLong, board, run_back, at, 20000)


class BackRefusalTest(unittest.TestCase):
    SHUT = ([[0]], [[1], [0]], [[PIT], [1]], [[1, PIT], [1, 1]], [[PIT]] * 11 + [[11]])
    WRONG = (-13, -2, -1, 2, 3, 12)

    def tree(self):
        return Board([[1, PIT], [0, PIT]])

    def ring(self):
        return turned([[1, PIT], [0, PIT]], [1, 1])

    def test_a_number_that_no_site_has(self):
        for at in self.WRONG:
            with self.subTest(at=at):
                assert_refused(self, NoSite, self.tree(), run_back, at, 20000)

    def test_a_board_that_is_not_open(self):
        for rows in self.SHUT:
            for at in range(len(rows)):
                with self.subTest(rows=rows, at=at):
                    assert_refused(self, NotOpen, Board(rows), run_back, at, 20000)

    def test_a_marble_that_lies_somewhere(self):
        for loaded in (0, 1):
            for at in (0, 1):
                board = self.tree()
                board.load(loaded, 1)
                with self.subTest(loaded=loaded, at=at):
                    assert_refused(self, NotBare, board, run_back, at, 20000)
                    step(board, loaded)
                    assert_refused(self, NotBare, board, run_back, at, 20000)

    def test_a_board_that_is_no_tree(self):
        for at in (0, 1):
            assert_refused(self, NotTree, self.ring(), run_back, at, 20000)
        assert_refused(self, NotTree, Board([[PIT, 0]]), run_back, 0, 20000)
        # From the first site last exits lead to the pit; it is the others that go round.
        board = turned([[PIT], [2, PIT], [1, PIT]], [0, 1, 1])
        for at in range(3):
            assert_refused(self, NotTree, board, run_back, at, 20000)

    def test_no_site_comes_ahead_of_all_others(self):
        loaded = self.tree()
        loaded.load(0, 1)
        loaded_ring = self.ring()
        loaded_ring.load(1, 2)
        loaded_shut = Board([[1, PIT], [1]])
        loaded_shut.load(0, 1)
        for board in (self.tree(), self.ring(), Board([[1, PIT], [1]]), loaded, loaded_ring, loaded_shut):
            for at in self.WRONG:
                for most in (20000, 0):
                    with self.subTest(board=standing(board), at=at, most=most):
                        assert_refused(self, NoSite, board, run_back, at, most)

    def test_not_open_comes_ahead_of_marbles_trees_and_lengths(self):
        for rows in self.SHUT:
            for at in range(len(rows)):
                board = Board(rows)
                assert_refused(self, NotOpen, board, run_back, at, 0)
                board.load(len(rows) - 1, 1)
                with self.subTest(rows=rows, at=at):
                    assert_refused(self, NotOpen, board, run_back, at, 20000)
                    assert_refused(self, NotOpen, board, run_back, at, 0)

    def test_marbles_come_ahead_of_trees_and_lengths(self):
        for board in (self.tree(), self.ring()):
            board.load(1, 1)
            for at in (0, 1):
                for most in (20000, 0):
                    with self.subTest(board=standing(board), at=at, most=most):
                        assert_refused(self, NotBare, board, run_back, at, most)

    def test_trees_come_ahead_of_lengths(self):
        for at in (0, 1):
            assert_refused(self, NotTree, self.ring(), run_back, at, 0)

    def test_steps_and_takings_stay_behind_each_refusal(self):
        board = self.tree()
        board.load(0, 3)
        run(board, 20000)
        assert_refused(self, NoSite, board, run_back, -1, 20000)
        assert_refused(self, TooLong, board, run_back, 0, 0)
        board.load(1, 1)
        assert_refused(self, NotBare, board, run_back, 0, 20000)
        run(board, 20000)
        board.turn_to(0, 1)
        board.turn_to(1, 1)
        assert_refused(self, NotTree, board, run_back, 0, 20000)
        self.assertEqual(board.taken, 4)

    def test_each_small_board_that_is_refused_for_its_form(self):
        for rows in small_rows():
            for turns in all_turns(rows):
                board = turned(rows, turns)
                with self.subTest(rows=rows, turns=turns):
                    if not is_open(board):
                        assert_refused(self, NotOpen, board, run_back, 0, 20000)
                    elif not is_tree(board):
                        assert_refused(self, NotTree, board, run_back, 1, 20000)


if __name__ == "__main__":
    unittest.main()
