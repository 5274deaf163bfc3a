import itertools
import math
import unittest
from fractions import Fraction

from marblerun.board import PIT, Board
from marblerun.errors import NoSite, NotOpen
from marblerun.steps import run, step
from marblerun.trees import det, grid, round_of, trees
from marblerun.ways import is_open, is_tree
from tests.standing import (
    all_turns, assert_refused, chain, loaded_with, mixed_boards, mixed_numbers, mixed_rows, open_rows, small_rows,
    standing, turned,
)

SHUT = ([[0]], [[0] * 8], [[1], [0]], [[PIT], [1]], [[1, PIT], [1, 1]], [[PIT]] * 11 + [[11]])
THREE = (
    [[1, 2], [2, 0, PIT], [0, 2, 1]],
    [[PIT, 1, 0], [1, 2], [2, 2, PIT, 0]],
    [[1, 1, 2, PIT], [0, 2], [PIT, PIT, 1, 0, 0]],
    [[1, 2], [2, 0, 0], [0, 1]],
)


def falls(rows, turns, at):
    # By last exits; as many moves as sites are enough to come to the pit, if one comes to it.
    here = at
    for moved in rows:
        if here != PIT:
            here = rows[here][turns[here] - 1 if turns[here] > 0 else len(rows[here]) - 1]
    return here == PIT


def trees_of(rows):
    return [turns for turns in all_turns(rows) if all(falls(rows, turns, at) for at in range(len(rows)))]


def tree_turns(rows):
    # Turns of one tree of an open board: each site leads to one from which the pit was reached already.
    turns = {}
    while len(turns) < len(rows):
        for at, row in enumerate(rows):
            places = [place for place, way in enumerate(row) if way == PIT or way in turns]
            if at not in turns and places:
                turns[at] = (places[0] + 1) % len(row)
    return [turns[at] for at in range(len(rows))]


def marbles_till_back(rows, turns, at):
    board = turned(rows, turns)
    marbles = 0
    while marbles == 0 or board.turns != list(turns):
        board.load(at, 1)
        run(board, 20000)
        marbles += 1
    return marbles


def sum_of_ways(square):
    # Over all ways to take one number of each row and column; each pair out of order turns the sign.
    total = 0
    for places in itertools.permutations(range(len(square))):
        swapped = sum(one > other for one, other in itertools.combinations(places, 2))
        taken = math.prod(row[place] for row, place in zip(square, places))
        total += -taken if swapped % 2 else taken
    return total


def least_common_bottom(rows, at):
    # The least number of marbles whose share is whole at each site: the row of the grid's inverse, by fractions.
    size = len(rows)
    square = [[Fraction(number) for number in row] for row in grid_by_hand(rows)]
    # The shares x are such that x times the grid is 1 at the site and 0 else, so the grid is laid on its side.
    lines = [[square[row][column] for row in range(size)] + [Fraction(column == at)] for column in range(size)]
    for column in range(size):
        lead = next(place for place in range(column, size) if lines[place][column] != 0)
        lines[column], lines[lead] = lines[lead], lines[column]
        lines[column] = [number / lines[column][column] for number in lines[column]]
        for other in range(size):
            if other != column:
                share = lines[other][column]
                lines[other] = [one - share * top for one, top in zip(lines[other], lines[column])]
    return math.lcm(*[line[-1].denominator for line in lines])


def grid_by_hand(rows):
    square = [[0] * len(rows) for row in rows]
    for at, row in enumerate(rows):
        for way in row:
            if way != at:
                square[at][at] += 1
                if way != PIT:
                    square[at][way] -= 1
    return square


def long_number(numbers, figures):
    # The first figure is no nought, so that the number has just so many.
    text = "".join(str(next(numbers) % 10) for place in range(figures - 1))
    number = int(str(1 + next(numbers) % 9) + text)
    return -number if next(numbers) % 2 else number


class GridTest(unittest.TestCase):
    def assert_grid(self, board, wanted):
        before = standing(board)
        answer = grid(board)
        self.assertIs(type(answer), list)
        self.assertEqual({type(row) for row in answer}, {list})
        self.assertEqual({type(number) for row in answer for number in row}, {int})
        self.assertEqual(answer, wanted)
        self.assertEqual(standing(board), before)

    def test_one_site(self):
        self.assert_grid(Board([[PIT]]), [[1]])
        self.assert_grid(Board([[0]]), [[0]])
        self.assert_grid(Board([[PIT] * 8]), [[8]])
        self.assert_grid(Board([[0] * 8]), [[0]])
        self.assert_grid(Board([[0, PIT, 0, PIT, PIT]]), [[3]])

    def test_told_whole(self):
        self.assert_grid(Board([[1, PIT], [0, 1, PIT]]), [[2, -1], [-1, 2]])
        self.assert_grid(Board([[1, 1, 2, PIT], [0, 2], [2, PIT]]), [[4, -2, -1], [-1, 2, -1], [0, 0, 1]])

    def test_the_pit_has_no_place(self):
        # It is no number counted from the end either.
        self.assert_grid(Board([[PIT, PIT], [PIT]]), [[2, 0], [0, 1]])

    def test_twelve_sites_with_eight_exits(self):
        rows = [[(at + 1) % 12] * 5 + [at, PIT, (at + 2) % 12] for at in range(12)]
        wanted = [[0] * 12 for at in range(12)]
        for at in range(12):
            wanted[at][at] = 7
            wanted[at][(at + 1) % 12] = -5
            wanted[at][(at + 2) % 12] = -1
        self.assert_grid(Board(rows), wanted)

    def test_mixed_boards(self):
        for board in mixed_boards():
            with self.subTest(board=standing(board)):
                self.assert_grid(board, grid_by_hand(board.rows))

    def test_turns_loads_and_steps_count_for_nothing(self):
        for rows in open_rows():
            board = Board(rows)
            board.turn_to(0, len(rows[0]) - 1)
            board.load(len(rows) - 1, 3)
            step(board, len(rows) - 1)
            with self.subTest(rows=rows):
                self.assert_grid(board, grid_by_hand(rows))

    def test_the_answer_is_the_askers_own(self):
        board = Board([[1, PIT], [0, 1, PIT]])
        before = standing(board)
        answer = grid(board)
        answer[0][0] = 77
        answer[1].append(5)
        answer.append([1])
        self.assertEqual(standing(board), before)
        self.assert_grid(board, [[2, -1], [-1, 2]])
        self.assertEqual(trees(board), 3)

    def test_no_two_lists_are_one(self):
        # Rows that are alike, on the board and in the grid.
        board = Board([[0]] * 12)
        told = grid(board) + grid(board) + board.rows + [board.turns, board.loads, board.steps]
        self.assertEqual(len({id(one) for one in told}), len(told))


class DetTest(unittest.TestCase):
    def assert_det(self, square, wanted):
        before = [list(row) for row in square]
        kept = list(square)
        answer = det(square)
        self.assertIs(type(answer), int)
        self.assertEqual(answer, wanted)
        self.assertEqual(square, before)
        self.assertTrue(all(one is other for one, other in zip(square, kept)))

    def test_without_rows(self):
        self.assert_det([], 1)

    def test_one_row(self):
        for number in (0, 1, -1, 7, -12, 10 ** 30 - 1, 1 - 10 ** 30):
            self.assert_det([[number]], number)

    def test_told_whole(self):
        self.assert_det([[2, -1], [-1, 2]], 3)
        self.assert_det([[0, 1], [1, 0]], -1)
        self.assert_det([[1, 2], [3, 4]], -2)
        self.assert_det([[0, 0, 1], [1, 0, 0], [0, 1, 0]], 1)
        self.assert_det([[2, 0, 1], [1, 3, 2], [1, 1, 1]], 0)
        self.assert_det([[2, -3, 1], [2, 0, -1], [1, 4, 5]], 49)

    def test_each_square_of_two_rows(self):
        for numbers in itertools.product(range(-2, 3), repeat=4):
            square = [list(numbers[:2]), list(numbers[2:])]
            self.assert_det(square, sum_of_ways(square))

    def test_each_square_of_three_rows(self):
        for numbers in itertools.product((-1, 0, 2), repeat=9):
            square = [list(numbers[:3]), list(numbers[3:6]), list(numbers[6:])]
            self.assertEqual(det(square), sum_of_ways(square))

    def test_squares_of_up_to_four_rows(self):
        numbers = mixed_numbers(3)
        for size in range(5):
            # Few numbers to choose from make many noughts and many rows that hang together.
            for spread in (1, 2, 5, 1000):
                for done in range(150):
                    square = [[next(numbers) % (2 * spread + 1) - spread for at in range(size)] for row in range(size)]
                    self.assert_det(square, sum_of_ways(square))

    def test_long_numbers_in_squares_of_up_to_four_rows(self):
        numbers = mixed_numbers(4)
        for size in range(5):
            for done in range(30):
                square = [[long_number(numbers, 30) for at in range(size)] for row in range(size)]
                if size > 1 and done % 2:
                    for at in range(size):
                        square[at][(at + done) % size] = 0
                self.assert_det(square, sum_of_ways(square))

    def test_rows_in_each_order(self):
        # One number in each row and column, at each place: noughts stand on the long line and behind it.
        for size in range(6):
            for places in itertools.permutations(range(size)):
                square = [[at + 2 if at == place else 0 for at in range(size)] for place in places]
                self.assert_det(square, sum_of_ways(square))

    def test_noughts_on_the_whole_long_line(self):
        # Ones everywhere else: so many rows less one, with the sign plus just where the rows are odd.
        for size in range(1, 13):
            square = [[0 if at == row else 1 for at in range(size)] for row in range(size)]
            self.assert_det(square, (size - 1) * (1 if size % 2 else -1))

    def test_numbers_on_the_other_long_line(self):
        numbers = mixed_numbers(5)
        for size in range(1, 13):
            line = [long_number(numbers, 30) for at in range(size)]
            square = [[line[row] if at == size - 1 - row else 0 for at in range(size)] for row in range(size)]
            self.assert_det(square, math.prod(line) * (-1 if size * (size - 1) // 2 % 2 else 1))

    def test_long_numbers_on_the_long_line_and_on_one_side_of_it(self):
        numbers = mixed_numbers(6)
        for size in range(1, 13):
            square = [[0 if at < row else long_number(numbers, 30) for at in range(size)] for row in range(size)]
            for row in range(size - 1):
                square[row][row + 1 + next(numbers) % (size - row - 1)] = 0
            wanted = math.prod(square[at][at] for at in range(size))
            self.assert_det(square, wanted)
            self.assert_det([list(column) for column in zip(*square)], wanted)
            turn = -1 if size * (size - 1) // 2 % 2 else 1
            self.assert_det(square[::-1], wanted * turn)
            self.assert_det([row[::-1] for row in square], wanted * turn)

    def test_products_of_squares(self):
        # The determinant of a product is the product of both; these have no nought where one would look for it.
        numbers = mixed_numbers(8)
        for size in range(1, 13):
            for done in range(6):
                low = [[0 if at > row else next(numbers) % 19 - 9 for at in range(size)] for row in range(size)]
                high = [[0 if at < row else long_number(numbers, 27) for at in range(size)] for row in range(size)]
                for at in range(size):
                    low[at][at] = 1 + next(numbers) % 9
                square = [
                    [sum(low[row][at] * high[at][column] for at in range(size)) for column in range(size)]
                    for row in range(size)
                ]
                self.assertTrue(all(abs(number) < 10 ** 30 for row in square for number in row))
                line = math.prod(low[at][at] * high[at][at] for at in range(size))
                if size > 1 and done % 2:
                    square[0], square[-1] = square[-1], square[0]
                    line = -line
                self.assert_det(square, line)

    def test_powers_of_numbers(self):
        for size in range(1, 13):
            bases = [(-1) ** at * (at + 2) for at in range(size)]
            square = [[base ** power for power in range(size)] for base in bases]
            wanted = math.prod(other - one for one, other in itertools.combinations(bases, 2))
            self.assert_det(square, wanted)

    def test_two_squares_side_by_side(self):
        one = [[0, 3, 1], [2, 0, 5], [1, 1, 0]]
        other = [[0, 0, 2, 1], [1, 0, 0, 4], [0, 3, 0, 0], [2, 0, 0, 0]]
        square = [row + [9, 8, 7, 6] for row in one] + [[0, 0, 0] + row for row in other]
        self.assert_det(square, sum_of_ways(one) * sum_of_ways(other))

    def test_rows_that_hang_together(self):
        numbers = mixed_numbers(9)
        for size in range(2, 13):
            square = [[long_number(numbers, 28) for at in range(size)] for row in range(size)]
            last = size - 1
            self.assert_det(square[:last] + [list(square[0])], 0)
            self.assert_det(square[:last] + [[sum(column) for column in zip(*square[:last])]], 0)
            self.assert_det(square[:last] + [[0] * size], 0)
            self.assert_det([[0] * size] + square[1:], 0)
            for place in range(size):
                self.assert_det([row[:place] + [0] + row[place + 1:] for row in square], 0)

    def test_one_list_handed_in_as_several_rows(self):
        self.assert_det([[1, 2]] * 2, 0)
        self.assert_det([[0] * 12] * 12, 0)

    def test_one_row_more_changes_the_answer_by_one(self):
        # An answer that was not exact would miss the one.
        numbers = mixed_numbers(10)
        for size in range(2, 13):
            square = [[0 if at < row else long_number(numbers, 30) for at in range(size)] for row in range(size)]
            line = math.prod(square[at][at] for at in range(1, size))
            square[0][0] = 10 ** 30 - 1
            self.assert_det(square, line * (10 ** 30 - 1))
            square[0][0] = 10 ** 30 - 2
            self.assert_det(square, line * (10 ** 30 - 2))

    def test_somewhat_more_rows_and_longer_numbers(self):
        for size in (13, 16):
            square = [[10 ** 40 + at if at >= row else 0 for at in range(size)] for row in range(size)]
            turn = -1 if size * (size - 1) // 2 % 2 else 1
            self.assert_det(square[::-1], math.prod(10 ** 40 + at for at in range(size)) * turn)


class TreesTest(unittest.TestCase):
    def assert_trees(self, board, wanted):
        before = standing(board)
        answer = trees(board)
        self.assertIs(type(answer), int)
        self.assertEqual(answer, wanted)
        self.assertEqual(standing(board), before)

    def test_one_site(self):
        self.assert_trees(Board([[PIT]]), 1)
        self.assert_trees(Board([[0]]), 0)
        self.assert_trees(Board([[0, PIT, PIT, 0]]), 2)
        self.assert_trees(Board([[PIT] * 8]), 8)

    def test_told_whole(self):
        self.assert_trees(Board([[1, PIT], [0, 1, PIT]]), 3)
        self.assert_trees(Board([[1, PIT], [0, PIT]]), 3)
        self.assert_trees(Board([[1, 2], [2, 0, PIT], [0, 2, 1]]), 3)

    def test_each_small_board_gone_through(self):
        for rows in small_rows():
            with self.subTest(rows=rows):
                self.assert_trees(Board(rows), len(trees_of(rows)))

    def test_boards_with_more_sites_and_exits_gone_through(self):
        gone = 0
        for rows in list(THREE) + open_rows() + mixed_rows():
            if math.prod(len(row) for row in rows) <= 4096:
                with self.subTest(rows=rows):
                    self.assert_trees(Board(rows), len(trees_of(rows)))
                gone += 1
        self.assertGreater(gone, 40)

    def test_it_counts_what_is_tree_says(self):
        for rows in THREE:
            told = sum(is_tree(turned(rows, turns)) for turns in all_turns(rows))
            self.assert_trees(Board(rows), told)

    def test_twelve_sites(self):
        self.assert_trees(Board([[PIT]] * 12), 1)
        self.assert_trees(Board([[PIT] * 8] * 12), 8 ** 12)
        # Around the ring of twelve, all but the one row of turns without the pit make a tree.
        self.assert_trees(Board([[(at + 1) % 12, PIT] for at in range(12)]), 2 ** 12 - 1)
        self.assert_trees(Board([[(at + 1) % 12] * 7 + [PIT] for at in range(12)]), 8 ** 12 - 7 ** 12)
        self.assert_trees(Board(chain([7] * 12)), 1)

    def test_all_to_all_by_the_rule_of_cayley(self):
        # A line between each two places, the pit among them: (sites + 1) ** (sites - 1).
        for sites in range(1, 8):
            rows = [[PIT] + [other for other in range(sites) if other != at] for at in range(sites)]
            self.assert_trees(Board(rows), (sites + 1) ** (sites - 1))

    def test_nought_just_where_the_board_is_not_open(self):
        told = {True: 0, False: 0}
        for rows in mixed_rows() + small_rows() + open_rows() + [list(one) for one in SHUT]:
            board = Board(rows)
            with self.subTest(rows=rows):
                self.assertEqual(trees(board) > 0, is_open(board))
                self.assertGreaterEqual(trees(board), 0)
            told[is_open(board)] += 1
        self.assertGreater(min(told.values()), 20)

    def test_boards_that_are_not_open(self):
        for rows in SHUT:
            self.assert_trees(Board(rows), 0)
            self.assert_trees(loaded_with(rows, [2] * len(rows)), 0)

    def test_turns_loads_and_steps_count_for_nothing(self):
        for board in mixed_boards():
            with self.subTest(board=standing(board)):
                self.assert_trees(board, trees(Board(board.rows)))


class RoundTest(unittest.TestCase):
    def assert_round(self, board, at, wanted):
        before = standing(board)
        answer = round_of(board, at)
        self.assertIs(type(answer), int)
        self.assertEqual(answer, wanted)
        self.assertEqual(standing(board), before)

    def test_one_site(self):
        self.assert_round(Board([[PIT]]), 0, 1)
        self.assert_round(Board([[PIT] * 8]), 0, 8)
        self.assert_round(Board([[0, 0, PIT]]), 0, 1)
        self.assert_round(Board([[0, PIT, 0, PIT, PIT]]), 0, 3)

    def test_told_whole(self):
        self.assert_round(Board([[PIT, PIT], [PIT] * 3]), 0, 2)
        self.assert_round(Board([[PIT, PIT], [PIT] * 3]), 1, 3)
        self.assert_round(Board([[1, PIT], [PIT] * 3]), 0, 6)
        self.assert_round(Board([[1, PIT], [PIT] * 3]), 1, 3)

    def test_marbles_run_one_behind_the_other_on_each_small_board(self):
        for rows in small_rows():
            for turns in trees_of(rows):
                for at in (0, 1):
                    with self.subTest(rows=rows, turns=turns, at=at):
                        self.assert_round(turned(rows, turns), at, marbles_till_back(rows, turns, at))

    def test_marbles_run_one_behind_the_other_from_each_tree_of_three_sites(self):
        for rows in THREE:
            for turns in trees_of(rows):
                for at in range(3):
                    with self.subTest(rows=rows, turns=turns, at=at):
                        self.assert_round(Board(rows), at, marbles_till_back(rows, turns, at))

    def test_marbles_run_one_behind_the_other_on_boards_of_each_size(self):
        sizes = {}
        for rows in open_rows() + mixed_rows() + [[[PIT, (at + 1) % 5] for at in range(5)], chain([1] * 11)]:
            if is_open(Board(rows)):
                turns = tree_turns(rows)
                for at in range(len(rows)):
                    if round_of(Board(rows), at) <= 300:
                        with self.subTest(rows=rows, at=at):
                            self.assert_round(Board(rows), at, marbles_till_back(rows, turns, at))
                        sizes[len(rows)] = True
        self.assertGreaterEqual(len(sizes), 9)

    def test_the_ring_of_twelve(self):
        rows = [[PIT, (at + 1) % 12] for at in range(12)]
        turns = tree_turns(rows)
        for at in (0, 7):
            self.assertEqual(marbles_till_back(rows, turns, at), 2 ** 12 - 1)
            self.assert_round(Board(rows), at, 2 ** 12 - 1)

    def test_rounds_of_many_figures(self):
        # Each site hands one marble of eight on: its turn is back when all the turns ahead of it have gone round.
        rows = [[at + 1] + [PIT] * 7 for at in range(11)] + [[PIT] * 8]
        for at in range(12):
            self.assert_round(Board(rows), at, 8 ** (12 - at))
        self.assertEqual(round_of(Board(rows), 0), 68719476736)
        rows = [[(at + 1) % 12] + [PIT] * 7 for at in range(12)]
        for at in range(12):
            self.assert_round(Board(rows), at, 8 ** 12 - 1)

    def test_rounds_that_are_a_part_of_the_trees(self):
        rows = [[PIT] * many for many in (8, 7, 6, 5, 4, 3, 2, 1, 8, 7, 6, 5)]
        for at, row in enumerate(rows):
            self.assert_round(Board(rows), at, len(row))
        # Two pairs of sites, each with five trees: 25 in all, but rounds of 5.
        rows = [[1, 1, PIT], [0, 0, PIT], [3, 3, PIT], [2, 2, PIT]]
        self.assertEqual(trees(Board(rows)), 25)
        for at in range(4):
            self.assert_round(Board(rows), at, 5)

    def test_a_round_that_hangs_on_each_row_of_the_grid(self):
        # Only the share of one site is no whole number, be it the site itself, the first, the last or one between.
        for last in range(12):
            rows = [[PIT] * 5 if at == last else [last] for at in range(12)]
            for at in range(12):
                self.assert_round(Board(rows), at, 5)

    def test_mixed_boards_against_fractions(self):
        told = 0
        for board in mixed_boards():
            if is_open(board):
                for at in range(len(board.rows)):
                    with self.subTest(board=standing(board), at=at):
                        self.assert_round(board, at, least_common_bottom(board.rows, at))
                told += 1
        self.assertGreater(told, 40)

    def test_one_or_more_and_a_divisor_of_the_trees(self):
        for rows in open_rows() + [rows for rows in mixed_rows() if is_open(Board(rows))]:
            board = Board(rows)
            for at in range(len(rows)):
                self.assertGreaterEqual(round_of(board, at), 1)
                self.assertEqual(trees(board) % round_of(board, at), 0)

    def test_the_same_for_all_turns_and_whatever_marbles_lie(self):
        for rows in list(THREE)[:3] + [[[1, PIT], [0, 1, PIT]]]:
            for at in range(len(rows)):
                wanted = round_of(Board(rows), at)
                for turns in all_turns(rows):
                    board = turned(rows, turns)
                    board.load(at, 1)
                    self.assert_round(board, at, wanted)
                    board.load(0, 399)
                    step(board, 0)
                    self.assert_round(board, at, wanted)

    def test_a_number_that_no_site_has_is_refused(self):
        for rows in open_rows():
            for at in (-13, -2, -1, len(rows), len(rows) + 1, 100):
                with self.subTest(rows=rows, at=at):
                    assert_refused(self, NoSite, Board(rows), round_of, at)
                    assert_refused(self, NoSite, loaded_with(rows, [3] * len(rows)), round_of, at)

    def test_a_board_that_is_not_open_is_refused(self):
        for rows in SHUT:
            for at in range(len(rows)):
                with self.subTest(rows=rows, at=at):
                    assert_refused(self, NotOpen, Board(rows), round_of, at)
                    assert_refused(self, NotOpen, loaded_with(rows, [3] * len(rows)), round_of, at)

    def test_no_site_comes_ahead_of_not_open(self):
        for rows in SHUT:
            for at in (-13, -2, -1, len(rows), len(rows) + 1, 100):
                with self.subTest(rows=rows, at=at):
                    assert_refused(self, NoSite, Board(rows), round_of, at)

    def test_mixed_boards_are_refused_just_where_they_are_not_open(self):
        for board in mixed_boards():
            if not is_open(board):
                for at in range(len(board.rows)):
                    assert_refused(self, NotOpen, board, round_of, at)
                assert_refused(self, NoSite, board, round_of, len(board.rows))


if __name__ == "__main__":
    unittest.main()
