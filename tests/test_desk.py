import unittest

from marblerun.back import run_back
from marblerun.board import PIT, Board
from marblerun.desk import play
from marblerun.errors import BoardError
from marblerun.steps import run, step
from tests.standing import loaded_with, mixed_boards, mixed_numbers, open_rows, standing, turned

CALLS = {"load": Board.load, "turn": Board.turn_to, "step": step, "run": run, "back": run_back}


def played_by_hand(board, deeds):
    answers = []
    for kind, *rest in deeds:
        try:
            answers.append(CALLS[kind](board, *rest))
        except BoardError as refusal:
            answers.append(("refused", type(refusal).__name__))
    return answers


def mixed_deeds(numbers, sites, many):
    deeds = []
    for done in range(many):
        at = next(numbers) % (sites + 2) - 1
        most = (20000, 20000, 3, 0)[next(numbers) % 4]
        deeds.append((
            ("load", at, (1, 2, 30, 401)[next(numbers) % 4]),
            ("turn", at, next(numbers) % 9 - 1),
            ("step", at),
            ("run", most),
            ("back", at, most),
        )[next(numbers) % 5])
    return deeds


class PlayTest(unittest.TestCase):
    def assert_played(self, board, deeds, wanted):
        handed_in = list(deeds)
        answers = play(board, deeds)
        self.assertIs(type(answers), list)
        self.assertEqual(answers, wanted)
        self.assertEqual([type(answer) for answer in answers], [type(answer) for answer in wanted])
        self.assertEqual(deeds, handed_in)

    def assert_as_by_hand(self, board, deeds):
        twin = board.twin()
        self.assert_played(board, deeds, played_by_hand(twin, deeds))
        self.assertEqual(standing(board), standing(twin))

    def test_no_deed(self):
        board = loaded_with([[1, PIT], [0, PIT]], [1, 2])
        before = standing(board)
        self.assert_played(board, [], [])
        self.assertEqual(standing(board), before)

    def test_each_kind_done(self):
        board = Board([[1, PIT], [0, PIT]])
        self.assert_played(board, [("load", 0, 3)], [None])
        self.assertEqual(board.loads, [3, 0])
        self.assert_played(board, [("turn", 1, 1)], [None])
        self.assertEqual(board.turns, [0, 1])
        self.assert_played(board, [("step", 0)], [1])
        self.assert_played(board, [("step", 0)], [PIT])
        self.assertEqual(standing(board), (((1, PIT), (0, PIT)), (0, 1), (1, 1), (2, 0), 1))
        self.assert_played(board, [("run", 20000)], [4])
        self.assertEqual(standing(board), (((1, PIT), (0, PIT)), (0, 1), (0, 0), (4, 2), 3))
        self.assert_played(board, [("back", 0, 20000)], [3])
        self.assertEqual(standing(board), (((1, PIT), (0, PIT)), (0, 0), (0, 0), (4, 2), 3))

    def test_one_behind_the_other(self):
        board = Board([[1, PIT], [0, PIT]])
        deeds = [
            ("load", 0, 3), ("turn", 1, 1), ("step", 0), ("step", 0), ("run", 20000), ("back", 0, 20000), ("run", 0),
        ]
        self.assert_played(board, deeds, [None, None, 1, PIT, 4, 3, 0])
        self.assertEqual(standing(board), (((1, PIT), (0, PIT)), (0, 0), (0, 0), (4, 2), 3))

    def test_a_deed_told_twice_is_done_twice(self):
        board = Board([[0, PIT]])
        self.assert_played(board, [("load", 0, 1)] * 2 + [("step", 0)] * 4, [None, None, 0, PIT, 0, PIT])
        self.assertEqual(board.taken, 2)

    def test_the_order_counts(self):
        self.assert_played(Board([[PIT]]), [("load", 0, 1), ("step", 0)], [None, PIT])
        self.assert_played(Board([[PIT]]), [("step", 0), ("load", 0, 1)], [("refused", "NoMarble"), None])

    def test_answers_of_nought_and_of_the_pit_are_answers(self):
        board = loaded_with([[0, PIT]], [2])
        self.assert_played(board, [("step", 0), ("step", 0), ("run", 20000), ("run", 0)], [0, PIT, 2, 0])

    def test_each_kind_refused(self):
        tree = [[1, PIT], [0, PIT]]
        shut = [[1, PIT], [1]]
        ring = turned(tree, [1, 1])
        loaded = loaded_with(tree, [2, 0])
        told = (
            (Board(tree), ("load", 2, 1), "NoSite"),
            (Board(tree), ("load", -1, 1), "NoSite"),
            (Board(tree), ("load", 2, 401), "NoSite"),
            (Board(tree), ("load", 0, 401), "TooMany"),
            (loaded, ("load", 1, 399), "TooMany"),
            (Board(tree), ("turn", 2, 0), "NoSite"),
            (Board(tree), ("turn", -1, 9), "NoSite"),
            (Board(tree), ("turn", 0, 2), "NoPlace"),
            (Board(tree), ("turn", 1, -1), "NoPlace"),
            (Board(tree), ("step", 2), "NoSite"),
            (loaded, ("step", -2), "NoSite"),
            (loaded, ("step", 1), "NoMarble"),
            (Board(shut), ("run", 20000), "NotOpen"),
            (loaded_with(shut, [1, 1]), ("run", 0), "NotOpen"),
            (loaded, ("run", 1), "TooLong"),
            (loaded, ("run", 0), "TooLong"),
            (loaded, ("back", 2, 0), "NoSite"),
            (Board(shut), ("back", -1, 20000), "NoSite"),
            (loaded_with(shut, [1, 1]), ("back", 0, 0), "NotOpen"),
            (loaded, ("back", 0, 0), "NotBare"),
            (loaded_with(tree, [0, 1]), ("back", 0, 20000), "NotBare"),
            (ring, ("back", 1, 0), "NotTree"),
            (ring, ("back", 0, 20000), "NotTree"),
            (Board(tree), ("back", 0, 0), "TooLong"),
            (turned(tree, [1, 0]), ("back", 0, 1), "TooLong"),
        )
        for board, deed, name in told:
            before = standing(board)
            with self.subTest(board=before, deed=deed):
                self.assert_played(board, [deed], [("refused", name)])
                self.assertEqual(standing(board), before)
                self.assert_played(board, [deed, deed], [("refused", name)] * 2)
                self.assertEqual(standing(board), before)
                self.assert_as_by_hand(board, [deed])

    def test_the_next_deeds_are_done_all_the_same(self):
        board = Board([[1, PIT], [0, PIT]])
        deeds = [
            ("step", 0), ("load", 0, 401), ("load", 0, 400), ("load", 1, 1), ("run", 3), ("turn", 0, 2), ("turn", 0, 1),
            ("step", 1), ("step", 0), ("back", 0, 20000), ("run", 20000), ("back", 5, 9), ("back", 0, 20000),
        ]
        wanted = [
            ("refused", "NoMarble"), ("refused", "TooMany"), None, ("refused", "TooMany"), ("refused", "TooLong"),
            ("refused", "NoPlace"), None, ("refused", "NoMarble"), PIT, ("refused", "NotBare"), 798,
            ("refused", "NoSite"), 1,
        ]
        self.assert_played(board, deeds, wanted)
        self.assertEqual((board.loads, board.taken), ([0, 0], 400))

    def test_a_run_that_is_refused_leaves_the_board_to_the_next_deeds_as_it_stood(self):
        board = loaded_with([[1, PIT], [0, 1, PIT]], [5, 0])
        self.assert_played(board, [("run", 8), ("step", 0)], [("refused", "TooLong"), 1])
        self.assertEqual(standing(board), (((1, PIT), (0, 1, PIT)), (1, 0), (4, 1), (1, 0), 0))

    def test_mixed_deeds_on_mixed_boards(self):
        numbers = mixed_numbers(21)
        seen = {}
        boards = list(mixed_boards()) + [Board(rows) for rows in open_rows()]
        for board in boards:
            deeds = mixed_deeds(numbers, len(board.rows), 40)
            seen.update({(deed[0], answer[1] if isinstance(answer, tuple) else "done"): True
                         for deed, answer in zip(deeds, played_by_hand(board.twin(), deeds))})
            with self.subTest(board=standing(board), deeds=deeds):
                self.assert_as_by_hand(board, deeds)
        for kind, names in (
            ("load", ("done", "NoSite", "TooMany")),
            ("turn", ("done", "NoSite", "NoPlace")),
            ("step", ("done", "NoSite", "NoMarble")),
            ("run", ("done", "NotOpen", "TooLong")),
            ("back", ("done", "NoSite", "NotOpen", "NotBare", "NotTree", "TooLong")),
        ):
            for name in names:
                self.assertIn((kind, name), seen)

    def test_deed_by_deed_is_as_all_at_once(self):
        numbers = mixed_numbers(22)
        for rows in open_rows():
            deeds = mixed_deeds(numbers, len(rows), 30)
            board = Board(rows)
            twin = Board(rows)
            with self.subTest(rows=rows, deeds=deeds):
                self.assertEqual(play(board, deeds), [play(twin, [deed])[0] for deed in deeds])
                self.assertEqual(standing(board), standing(twin))

    def test_nothing_hangs_on_deeds_and_answers_later(self):
        board = Board([[1, PIT], [0, PIT]])
        deeds = [("load", 0, 2), ("step", 0)]
        answers = play(board, deeds)
        before = standing(board)
        deeds[0] = ("load", 0, 77)
        deeds.append(("run", 20000))
        answers[1] = 9
        answers.append(None)
        self.assertEqual(standing(board), before)
        self.assertEqual(play(board, [("step", 1)]), [0])
        self.assertEqual((deeds[1:], answers), ([("step", 0), ("run", 20000)], [None, 9, None]))

    def test_two_plays_answer_two_lists(self):
        board = Board([[PIT]])
        one = play(board, [])
        other = play(board, [])
        one.append(1)
        self.assertEqual((other, play(board, [])), ([], []))

    def test_boards_side_by_side(self):
        rows = [[1, PIT], [0, PIT]]
        board = Board(rows)
        twin = board.twin()
        third = Board(rows)
        before = standing(twin)
        play(board, [("load", 0, 5), ("turn", 1, 1), ("step", 0), ("run", 20000), ("back", 1, 20000)])
        self.assertEqual((standing(twin), standing(third)), (before, before))
        self.assertEqual(rows, [[1, PIT], [0, PIT]])


if __name__ == "__main__":
    unittest.main()
