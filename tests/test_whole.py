"""What holds over the whole program: its names, its refusals, and what stays as it stood."""

import ast
import importlib
import inspect
import pathlib
import unittest

from marblerun import errors
from marblerun.back import run_back
from marblerun.board import PIT, Board
from marblerun.desk import play
from marblerun.notes import read, written
from marblerun.steps import run, step
from marblerun.tally import tally
from marblerun.trees import det, grid, round_of, trees
from marblerun.ways import is_open, is_tree, last_exit, reached
from tests.standing import loaded_with, mixed_boards, standing, turned

PACKAGE = pathlib.Path(__file__).resolve().parent.parent / "marblerun"
REFUSALS = (
    errors.NoSite, errors.NoExit, errors.NoPlace, errors.NoMarble, errors.TooMany,
    errors.NotOpen, errors.NotBare, errors.NotTree, errors.TooLong, errors.NoBoard,
)
INTERFACE = {
    "ways": {
        "reached": ["rows"], "is_open": ["board"], "is_tree": ["board"], "last_exit": ["board", "at"],
    },
    "steps": {"step": ["board", "at"], "run": ["board", "most"]},
    "tally": {"tally": ["board", "most"]},
    "back": {"run_back": ["board", "at", "most"]},
    "trees": {"grid": ["board"], "det": ["square"], "trees": ["board"], "round_of": ["board", "at"]},
    "notes": {"written": ["board"], "read": ["text"]},
    "desk": {"play": ["board", "deeds"]},
}
TREE = [[1, PIT], [0, PIT]]
SHUT = [[1, PIT], [1]]


def tree():
    return Board(TREE)


def shut():
    return loaded_with(SHUT, [1, 1])


def loaded():
    return loaded_with(TREE, [2, 0])


def ring():
    return turned(TREE, [1, 1])


# In each row: the board, a deed of it, what is handed in, and the refusal that is due, though others may be due too.
REFUSED = (
    (tree, Board.turn_to, (2, 0), errors.NoSite),
    (tree, Board.turn_to, (-1, 9), errors.NoSite),
    (tree, Board.turn_to, (0, 2), errors.NoPlace),
    (loaded, Board.load, (2, 1), errors.NoSite),
    (loaded, Board.load, (-1, 1000), errors.NoSite),
    (loaded, Board.load, (1, 399), errors.TooMany),
    (tree, last_exit, (2,), errors.NoSite),
    (shut, last_exit, (-1,), errors.NoSite),
    (tree, step, (-1,), errors.NoSite),
    (loaded, step, (2,), errors.NoSite),
    (loaded, step, (1,), errors.NoMarble),
    (shut, run, (0,), errors.NotOpen),
    (shut, run, (20000,), errors.NotOpen),
    (loaded, run, (1,), errors.TooLong),
    (shut, tally, (0,), errors.NotOpen),
    (shut, tally, (20000,), errors.NotOpen),
    (loaded, tally, (1,), errors.TooLong),
    (shut, run_back, (2, 0), errors.NoSite),
    (loaded, run_back, (-1, 0), errors.NoSite),
    (ring, run_back, (-1, 0), errors.NoSite),
    (shut, run_back, (0, 0), errors.NotOpen),
    (loaded, run_back, (0, 0), errors.NotBare),
    (ring, run_back, (0, 0), errors.NotTree),
    (tree, run_back, (0, 0), errors.TooLong),
    (shut, round_of, (2,), errors.NoSite),
    (tree, round_of, (-1,), errors.NoSite),
    (shut, round_of, (0,), errors.NotOpen),
)
REFUSED_WITHOUT_A_BOARD = (
    (Board, [], errors.NoSite),
    (Board, [[]] * 13, errors.NoSite),
    (Board, [[99]] * 13, errors.NoSite),
    (Board, [[PIT], []], errors.NoExit),
    (Board, [[PIT] * 9], errors.NoExit),
    (Board, [[PIT], [2]], errors.NoExit),
    (Board, [[-2]], errors.NoExit),
    (read, "", errors.NoBoard),
    (read, "board 0", errors.NoBoard),
    (read, "board 0\n1 401 0 > 7", errors.NoBoard),
    (read, "board 0\n1 0 0 > pit", errors.NoBoard),
    (read, "board 0\n0 401 0 > pit", errors.NoBoard),
    (read, "board 0\n0 0 0 > 1", errors.NoBoard),
    (read, "board 0" + "\n0 0 0 > pit" * 13, errors.NoBoard),
)


def tell_all(board):
    # All that only tells, but for what is refused.
    told = [reached(board.rows), is_open(board), is_tree(board), grid(board), det(grid(board)), trees(board)]
    told += [written(board), standing(board.twin()), standing(read(written(board)))]
    told += [last_exit(board, at) for at in range(len(board.rows))]
    for deed, rest in [(tally, 20000), (tally, 5)] + [(round_of, at) for at in range(-1, len(board.rows) + 1)]:
        try:
            told.append(deed(board, rest))
        except errors.BoardError as refusal:
            told.append(type(refusal))
    return told


class InterfaceTest(unittest.TestCase):
    def test_functions_have_their_names_and_arguments(self):
        for name, functions in INTERFACE.items():
            module = importlib.import_module("marblerun." + name)
            for function, arguments in functions.items():
                with self.subTest(module=name, function=function):
                    told = inspect.signature(getattr(module, function))
                    self.assertEqual(list(told.parameters), arguments)

    def test_the_board_has_its_deeds_and_fields(self):
        deeds = {"turn_to": ["self", "at", "place"], "load": ["self", "at", "many"], "twin": ["self"]}
        for name, arguments in deeds.items():
            self.assertEqual(list(inspect.signature(getattr(Board, name)).parameters), arguments)
        self.assertEqual(list(inspect.signature(Board).parameters), ["rows"])
        self.assertEqual(set(vars(tree())), {"rows", "turns", "loads", "steps", "taken"})

    def test_nothing_is_imported_but_the_package(self):
        # Neither clock nor chance nor files can be come by without an import or one of these names.
        files = sorted(PACKAGE.glob("*.py"))
        self.assertEqual(
            [file.stem for file in files],
            ["__init__", "back", "board", "desk", "errors", "notes", "steps", "tally", "trees", "ways"],
        )
        for file in files:
            for node in ast.walk(ast.parse(file.read_text())):
                with self.subTest(file=file.name):
                    self.assertNotIsInstance(node, ast.Import)
                    if isinstance(node, ast.ImportFrom):
                        self.assertEqual((node.level, node.module.split(".")[0]), (0, "marblerun"))
                    if isinstance(node, ast.Name):
                        self.assertNotIn(node.id, ("open", "print", "input", "__import__", "hash", "id"))


class RefusalTest(unittest.TestCase):
    def assert_just(self, refusal, caught):
        self.assertIsInstance(caught, ValueError)
        self.assertIsInstance(caught, errors.BoardError)
        self.assertEqual([one for one in REFUSALS if isinstance(caught, one)], [refusal])

    def test_the_refusal_told_first_is_due_and_nothing_is_changed(self):
        for make, deed, rest, refusal in REFUSED:
            board = make()
            twin = board.twin()
            before = standing(board)
            with self.subTest(board=before, deed=deed.__name__, rest=rest):
                with self.assertRaises(errors.BoardError) as caught:
                    deed(board, *rest)
                self.assert_just(refusal, caught.exception)
                self.assertEqual(standing(board), before)
                self.assertEqual(standing(twin), before)

    def test_where_no_board_is_made_what_was_handed_in_stays(self):
        for make, handed_in, refusal in REFUSED_WITHOUT_A_BOARD:
            before = repr(handed_in)
            with self.subTest(make=make.__name__, handed_in=before):
                with self.assertRaises(errors.BoardError) as caught:
                    make(handed_in)
                self.assert_just(refusal, caught.exception)
                self.assertEqual(repr(handed_in), before)

    def test_a_board_goes_on_behind_each_refusal(self):
        for make, deed, rest, refusal in REFUSED:
            board = make()
            other = make()
            with self.assertRaises(refusal):
                deed(board, *rest)
            deeds = [("step", 0), ("load", 1, 3), ("turn", 0, 1), ("step", 1), ("run", 20000), ("back", 0, 20000)]
            with self.subTest(deed=deed.__name__, rest=rest):
                self.assertEqual(play(board, deeds), play(other, deeds))
                self.assertEqual(standing(board), standing(other))


class TellingTest(unittest.TestCase):
    def test_what_only_tells_changes_no_board(self):
        for board in mixed_boards():
            before = standing(board)
            with self.subTest(board=before):
                told = tell_all(board)
                self.assertEqual(standing(board), before)
                self.assertEqual(tell_all(board), told)
                self.assertEqual(standing(board), before)

    def test_what_is_told_is_the_askers_own(self):
        for board in mixed_boards():
            before = standing(board)
            wanted = tell_all(board)
            for one in (reached(board.rows), grid(board), *grid(board), play(board, [])):
                one.clear()
            twin = board.twin()
            again = read(written(board))
            for other in (twin, again):
                for field in (*other.rows, other.rows, other.turns, other.loads, other.steps):
                    field.clear()
            with self.subTest(board=before):
                self.assertEqual(standing(board), before)
                self.assertEqual(tell_all(board), wanted)

    def test_no_two_lists_are_one(self):
        for board in mixed_boards():
            twin = board.twin()
            again = read(written(board))
            lists = [reached(board.rows), reached(board.rows), play(board, []), play(board, [])]
            for square in (grid(board), grid(board)):
                lists += [square] + square
            for one in (board, twin, again):
                lists += [one.rows, one.turns, one.loads, one.steps] + one.rows
            with self.subTest(board=standing(board)):
                self.assertEqual(len({id(one) for one in lists}), len(lists))

    def test_written_read_run_forth_by_the_round_and_run_back(self):
        # As many marbles as the round has lead to the turns of the tree again, forth and back.
        board = Board([[1, 2, PIT], [2, 0], [0, 2, 1, PIT]])
        self.assertIs(is_open(board), True)
        board.load(0, 9)
        board.load(1, 9)
        run(board, 20000)
        self.assertIs(is_tree(board), True)
        turns = list(board.turns)
        for at in range(3):
            for done in range(round_of(board, at)):
                self.assertEqual(play(board, [("load", at, 1)]), [None])
                expected = tally(board, 20000)
                board = read(written(board))
                self.assertEqual(run(board, 20000), sum(expected))
            self.assertEqual(board.turns, turns)
            for done in range(round_of(board, at)):
                run_back(board, at, 20000)
                self.assertEqual(board.turns == turns, done == round_of(board, at) - 1)


if __name__ == "__main__":
    unittest.main()
