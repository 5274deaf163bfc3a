import re
import unittest

from marblerun.board import PIT, Board
from marblerun.errors import NoBoard
from marblerun.notes import read, written
from marblerun.steps import run, step
from tests.standing import loaded_with, mixed_boards, mixed_rows, open_rows, small_boards, standing, turned

NUMBER = "(?:0|[1-9][0-9]{0,19})"
EXIT = f"(?:pit|{NUMBER})"
FORM = re.compile(f"board {NUMBER}(?:\n{NUMBER} {NUMBER} {NUMBER} > {EXIT}(?: {EXIT})*)*")
SOUND = "board 7\n1 0 12 > 1 pit\n0 30 5 > 0 1 pit 2\n2 4 0 > 1 pit 10 11" + "\n0 0 0 > pit" * 9
SIGNS = ["\t", "\n"] + [chr(code) for code in range(32, 127) if chr(code) != "%"]


def told_by(text):
    # How the board of a text stands, by another way than the program's; None if the text tells none.
    if not FORM.fullmatch(text):
        return None
    head, *lines = text.split("\n")
    sites = [line.replace("> ", "").replace("pit", "-1").split() for line in lines]
    turns, loads, counts = [tuple(int(site[at]) for site in sites) for at in range(3)] if sites else ((), (), ())
    rows = tuple(tuple(int(word) for word in site[3:]) for site in sites)
    if not 1 <= len(rows) <= 12 or sum(loads) > 400:
        return None
    for row, turn in zip(rows, turns):
        if not 1 <= len(row) <= 8 or max(row) >= len(rows) or turn >= len(row):
            return None
    return rows, turns, loads, counts, int(head[6:])


class WrittenTest(unittest.TestCase):
    def assert_written(self, board, wanted):
        before = standing(board)
        answer = written(board)
        self.assertIs(type(answer), str)
        self.assertEqual(answer, wanted)
        self.assertEqual(standing(board), before)

    def test_the_least_board(self):
        self.assert_written(Board([[PIT]]), "board 0\n0 0 0 > pit")
        self.assert_written(Board([[0]]), "board 0\n0 0 0 > 0")

    def test_told_whole(self):
        board = Board([[1, PIT], [0, 1, PIT]])
        self.assert_written(board, "board 0\n0 0 0 > 1 pit\n0 0 0 > 0 1 pit")
        board.turn_to(1, 2)
        self.assert_written(board, "board 0\n0 0 0 > 1 pit\n2 0 0 > 0 1 pit")
        board.load(0, 30)
        self.assert_written(board, "board 0\n0 30 0 > 1 pit\n2 0 0 > 0 1 pit")
        for at in (0, 0, 0, 1):
            step(board, at)
        self.assert_written(board, "board 2\n1 27 3 > 1 pit\n0 1 1 > 0 1 pit")
        run(board, 20000)
        self.assert_written(board, "board 30\n0 0 40 > 1 pit\n1 0 29 > 0 1 pit")

    def test_twelve_sites_with_eight_exits(self):
        rows = [[at, 11, PIT, 10, 0, PIT, 9, at] for at in range(12)]
        board = turned(rows, [7] * 12)
        board.load(11, 400)
        lines = [f"7 {400 if at == 11 else 0} 0 > {at} 11 pit 10 0 pit 9 {at}" for at in range(12)]
        self.assert_written(board, "\n".join(["board 0"] + lines))

    def test_mixed_boards_have_the_form(self):
        for board in mixed_boards():
            text = written(board)
            with self.subTest(text=text):
                self.assertEqual(told_by(text), standing(board))
                self.assert_written(board, text)


class ReadTest(unittest.TestCase):
    def assert_read(self, text, wanted):
        board = read(text)
        self.assertIs(type(board), Board)
        self.assertEqual(standing(board), wanted)
        fields = [board.rows, board.turns, board.loads, board.steps] + board.rows
        self.assertEqual({type(field) for field in fields}, {list})
        self.assertEqual({type(number) for field in fields[1:] for number in field}, {int})
        self.assertIs(type(board.taken), int)
        self.assertEqual(written(board), text)

    def assert_back(self, board):
        before = standing(board)
        self.assert_read(written(board), before)
        self.assertEqual(standing(board), before)

    def test_told_whole(self):
        self.assert_read("board 0\n0 0 0 > pit", (((PIT,),), (0,), (0,), (0,), 0))
        self.assert_read(
            "board 17\n1 30 9 > 1 pit\n2 4 100 > 0 1 pit 1",
            (((1, PIT), (0, 1, PIT, 1)), (1, 2), (30, 4), (9, 100), 17),
        )
        self.assert_read(SOUND, told_by(SOUND))

    def test_steps_and_takings_need_not_hang_together(self):
        self.assert_read("board 5\n0 0 0 > 0", (((0,),), (0,), (0,), (0,), 5))
        self.assert_read("board 0\n0 0 6 > pit", (((PIT,),), (0,), (0,), (6,), 0))

    def test_there_and_back(self):
        boards = list(small_boards()) + [Board(rows) for rows in open_rows() + mixed_rows()] + list(mixed_boards())
        for board in boards:
            with self.subTest(board=standing(board)):
                self.assert_back(board)

    def test_there_and_back_with_marbles_and_runs(self):
        for rows in open_rows():
            board = loaded_with(rows, [1] * len(rows))
            self.assert_back(board)
            step(board, 0)
            self.assert_back(board)
            run(board, 20000)
            self.assert_back(board)

    def test_each_turn_of_a_row(self):
        for length in range(1, 9):
            for turn in range(length):
                self.assert_back(turned([[PIT] * length], [turn]))

    def test_up_to_400_marbles(self):
        self.assert_read("board 0\n0 400 0 > pit", (((PIT,),), (0,), (400,), (0,), 0))
        self.assert_back(loaded_with([[0], [PIT], [1]], [199, 1, 200]))

    def test_up_to_twenty_figures(self):
        for number in (10 ** 19, 10 ** 20 - 1, 12345678901234567890):
            text = f"board {number}\n0 0 {number} > pit"
            self.assert_read(text, (((PIT,),), (0,), (0,), (number,), number))

    def test_a_board_that_was_read_goes_on(self):
        board = loaded_with([[1, PIT], [0, 1, PIT]], [5, 0])
        step(board, 0)
        again = read(written(board))
        self.assertEqual(run(again, 20000), run(board, 20000))
        self.assertEqual(standing(again), standing(board))

    def test_two_boards_that_were_read_are_two_boards(self):
        text = "board 1\n0 3 4 > 1 pit\n0 0 0 > 1 pit"
        board = read(text)
        other = read(text)
        before = standing(other)
        told = [board.rows, board.turns, board.loads, board.steps] + board.rows
        told += [other.rows, other.turns, other.loads, other.steps] + other.rows
        self.assertEqual(len({id(one) for one in told}), len(told))
        board.turn_to(1, 1)
        board.load(1, 2)
        step(board, 0)
        run(board, 20000)
        self.assertEqual(standing(other), before)
        self.assertEqual(standing(read(text)), before)
        self.assertNotEqual(standing(board), before)

    def test_rows_that_are_alike_are_not_one_list(self):
        board = read("board 0" + "\n0 0 0 > pit 0" * 12)
        self.assertEqual(len({id(row) for row in board.rows}), 12)


class SpoiltTest(unittest.TestCase):
    def assert_no_board(self, *texts):
        for text in texts:
            with self.subTest(text=text):
                self.assertIsNone(told_by(text))
                with self.assertRaises(NoBoard) as caught:
                    read(text)
                self.assertIs(type(caught.exception), NoBoard)

    def one_site(self, line):
        return "board 0\n" + line

    def test_no_text_and_no_site(self):
        self.assert_no_board("", " ", "\n", "\n\n", "board", "board ", "board 0")
        self.assert_no_board("board 0\n", "board 0\n\n", "\nboard 0")

    def test_the_first_line(self):
        heads = (
            "", "0", "board", "board ", " board 0", "board 0 ", "board  0", "board\t0", "board 0 0", "board 0 >",
            "Board 0", "BOARD 0", "boards 0", "oard 0", "board0", "0 board", "board: 0", "board x", "board pit",
            "board -1", "board +1", "board 00", "board 01", "board 1.0", "board 1e3", "board 1_0", "board 0x1",
            "board 100000000000000000000",
        )
        for head in heads:
            self.assert_no_board(head + "\n0 0 0 > pit")

    def test_lines_that_are_too_many_or_missing(self):
        self.assert_no_board(
            "0 0 0 > pit",
            "0 0 0 > pit\nboard 0",
            "board 0\nboard 0\n0 0 0 > pit",
            "board 0\n\n0 0 0 > pit",
            "\nboard 0\n0 0 0 > pit",
            "board 0\n0 0 0 > pit\n",
            "board 0\n0 0 0 > pit\n\n",
            "board 0\n0 0 0 > pit\n ",
            "board 0\n0 0 0 > pit\n0 0 0 > pit\n",
            "board 0 0 0 0 > pit",
            "board 0\n0 0 0\n> pit",
        )

    def test_numbers_with_a_nought_ahead_or_a_sign(self):
        for wrong in "00 01 007 -0 +0 -1 +1 --1 1- 0. 1.0 1_0 0x1 1e1 1, x #".split():
            for at in range(3):
                numbers = ["0", "0", "0"]
                numbers[at] = wrong
                self.assert_no_board(self.one_site(" ".join(numbers) + " > pit pit"))

    def test_exits_with_a_nought_ahead_or_a_sign(self):
        for wrong in "00 01 -0 +0 -1 +1 Pit PIT pits pi pit, 0, 0_0 > x pit0 pit-0".split():
            self.assert_no_board(self.one_site(f"0 0 0 > {wrong}\n0 0 0 > pit"))
            self.assert_no_board(self.one_site(f"0 0 0 > pit\n0 0 0 > 0 {wrong} pit"))

    def test_blanks_tabs_and_other_signs_between(self):
        sound = "0 1 2 > 0 pit"
        for place, sign in enumerate(sound):
            if sign == " ":
                for wrong in ("", "  ", "\t", " \t", "\t ", ",", "\n", " \n", "\n ", ", "):
                    self.assert_no_board(self.one_site(sound[:place] + wrong + sound[place + 1:]))
        for wrong in (" ", "\t", "\n", "  ", "."):
            self.assert_no_board(self.one_site(wrong + sound), self.one_site(sound + wrong))
            self.assert_no_board(self.one_site(sound + "\n" + wrong + sound))
            self.assert_no_board(self.one_site(sound + wrong + "\n" + sound))

    def test_words_that_are_too_many_or_missing(self):
        lines = (
            "0", "0 0", "0 0 0", "0 0 0 >", "0 0 0 > ", "0 0 0 0 > pit", "0 0 > pit", "0 > pit", "> pit", "pit", ">",
            "0 0 0 pit", "0 0 0 0 pit", "0 0 0 > > pit", "0 0 0 > pit >", "0 0 > 0 pit", "0 0 0 < pit", "0 0 0 = pit",
            "0 0 0 >> pit", "0 0 0 -> pit", "0 0 0 >pit", "0 0 0> pit", "0 0 pit > 0", "pit 0 0 > pit",
        )
        for line in lines:
            self.assert_no_board(self.one_site(line), self.one_site("0 0 0 > pit\n" + line))

    def test_more_than_twenty_figures(self):
        for figures in (21, 22, 400, 5000):
            long = "1" * figures
            self.assert_no_board(
                f"board {long}\n0 0 0 > pit",
                f"board 0\n{long} 0 0 > pit",
                f"board 0\n0 {long} 0 > pit",
                f"board 0\n0 0 {long} > pit",
                f"board 0\n0 0 0 > {long}",
                f"board {'0' * figures}\n0 0 0 > pit",
            )

    def test_an_exit_to_a_site_that_is_not_there(self):
        for sites in range(1, 13):
            for wrong in (sites, sites + 1, 12, 99, 10 ** 19):
                for place in (0, sites - 1):
                    lines = ["0 0 0 > pit 0"] * sites
                    lines[place] = f"0 0 0 > pit {wrong} 0"
                    self.assert_no_board("board 0\n" + "\n".join(lines))

    def test_a_turn_that_is_no_place_of_the_row(self):
        for length in range(1, 9):
            for wrong in (length, length + 1, 8, 10 ** 20 - 1):
                line = f"{wrong} 0 0 >" + " pit" * length
                self.assert_no_board(self.one_site(line), self.one_site("0 0 0 > 0 1 pit pit pit pit pit pit\n" + line))
        self.assert_no_board(self.one_site("1 0 0 > 0\n0 0 0 > 0 1"))

    def test_more_than_400_marbles_together(self):
        self.assert_no_board(self.one_site("0 401 0 > pit"), self.one_site("0 1000 0 > pit"))
        self.assert_no_board(self.one_site("0 99999999999999999999 0 > pit"))
        self.assert_no_board(self.one_site("0 400 0 > pit\n0 1 0 > pit"), self.one_site("0 1 0 > pit\n0 400 0 > pit"))
        self.assert_no_board("board 0" + "\n0 40 0 > pit" * 10 + "\n0 0 0 > pit\n0 1 0 > pit")

    def test_no_site_and_thirteen_and_more(self):
        self.assert_no_board("board 3")
        for sites in (13, 14, 50):
            self.assert_no_board("board 0" + "\n0 0 0 > pit" * sites)

    def test_rows_without_exits_and_with_nine_and_more(self):
        for sound in ("", "0 0 0 > pit\n"):
            self.assert_no_board(self.one_site(sound + "0 0 0 >"))
            for many in (9, 10, 30):
                self.assert_no_board(self.one_site(sound + "0 0 0 >" + " pit" * many))

    def test_several_faults_are_no_board_all_the_same(self):
        self.assert_no_board(
            "board 0\n1 401 0 > 7",
            "board 01\n9 999 00 >" + " 77" * 9,
            "board 0" + "\n8 400 0 > 99" * 13,
            "board 0\n1 401 0 > pit",
            "board 0\n1 0 0 >",
        )

    def assert_as_told(self, text):
        wanted = told_by(text)
        if wanted is None:
            self.assert_no_board(text)
        else:
            self.assertEqual(standing(read(text)), wanted)
            self.assertEqual(written(read(text)), text)
        return wanted is None

    def test_each_sign_left_out_or_doubled(self):
        refused = 0
        for place in range(len(SOUND)):
            refused += self.assert_as_told(SOUND[:place] + SOUND[place + 1:])
            refused += self.assert_as_told(SOUND[:place] + SOUND[place] + SOUND[place:])
        self.assertGreater(refused, 100)

    def test_each_sign_put_for_another(self):
        text = "board 10\n1 3 20 > 1 pit\n0 30 5 > 0 pit 1"
        refused = 0
        for place in range(len(text)):
            for sign in SIGNS:
                refused += self.assert_as_told(text[:place] + sign + text[place + 1:])
        self.assertGreater(refused, 3000)

    def test_each_sign_put_between(self):
        text = "board 10\n1 3 20 > 1 pit\n0 30 5 > 0 pit 1"
        for place in range(len(text) + 1):
            for sign in SIGNS:
                self.assert_as_told(text[:place] + sign + text[place:])

    def test_each_line_left_out_doubled_or_changed_for_another(self):
        lines = SOUND.split("\n")
        for place in range(len(lines)):
            self.assert_as_told("\n".join(lines[:place] + lines[place + 1:]))
            self.assert_as_told("\n".join(lines[:place] + [lines[place]] + lines[place:]))
            self.assert_as_told("\n".join([lines[place]] + lines[:place] + lines[place + 1:]))
            self.assert_as_told("\n".join(lines[:place]))

    def test_a_refusal_changes_no_board(self):
        board = read(SOUND)
        before = standing(board)
        self.assert_no_board(SOUND + "\n")
        self.assertEqual(standing(board), before)
        self.assertEqual(standing(read(SOUND)), before)


if __name__ == "__main__":
    unittest.main()
