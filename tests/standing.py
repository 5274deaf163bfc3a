"""Boards for the tests, and how a board stands, as a value that later deeds don't change."""

import itertools

from marblerun.board import PIT, Board
from marblerun.steps import step


def standing(board):
    rows = tuple(tuple(row) for row in board.rows)
    return rows, tuple(board.turns), tuple(board.loads), tuple(board.steps), board.taken


def turned(rows, turns):
    board = Board(rows)
    for at, place in enumerate(turns):
        board.turn_to(at, place)
    return board


def loaded_with(rows, loads):
    board = Board(rows)
    for at, many in enumerate(loads):
        board.load(at, many)
    return board


def assert_refused(case, refusal, board, deed, *rest):
    before = standing(board)
    with case.assertRaises(refusal):
        deed(board, *rest)
    case.assertEqual(standing(board), before)


def small_rows():
    # Every board of two sites with one or two exits each.
    ways = (PIT, 0, 1)
    row_choices = [list(row) for many in (1, 2) for row in itertools.product(ways, repeat=many)]
    return [list(pair) for pair in itertools.product(row_choices, repeat=2)]


def all_turns(rows):
    return itertools.product(*[range(len(row)) for row in rows])


def small_boards():
    for rows in small_rows():
        for turns in all_turns(rows):
            yield turned(rows, turns)


def chain(backs):
    # Each site leads so many times to the site ahead of it (the first one: to itself), then once to the one behind.
    last = len(backs) - 1
    return [[max(at - 1, 0)] * many + [at + 1 if at < last else PIT] for at, many in enumerate(backs)]


def open_rows():
    # Open boards of one to twelve sites; each is a tree as long as all turns are nought.
    return [
        [[PIT]],
        [[0, PIT]],
        [[0, 0, 0, 0, 0, 0, 0, PIT]],
        [[1, PIT], [0, 1, PIT]],
        [[PIT, 0, 1, PIT], [1, 1, 0]],
        [[1, 2], [2, 0, PIT], [0, 2, 1]],
        [[PIT, 3], [0, 2, 2, 0], [3, 1, PIT, 1], [3, 0, 1, PIT]],
        chain([1, 2, 0, 3, 1]),
        chain([1] * 12),
        [[(at + 5) % 12, (at + 1) % 12, at - 1] for at in range(12)],
    ]


def mixed_numbers(first):
    # Numbers without an order to be seen in them, the same each time.
    number = first
    while True:
        number = (number * 1103515245 + 12345) % 2147483648
        yield number // 1024


def mixed_row(numbers, sites, fewest, most):
    many = fewest + next(numbers) % (most - fewest + 1)
    return [next(numbers) % (sites + 1) - 1 for place in range(many)]


def mixed_rows():
    # Boards of each number of sites, with few exits, with some, and with as many as there may be; open and not.
    numbers = mixed_numbers(7)
    return [
        [mixed_row(numbers, sites, fewest, most) for at in range(sites)]
        for sites in range(1, 13)
        for fewest, most in ((1, 1), (1, 2), (1, 3), (1, 8), (3, 6), (8, 8))
    ]


def mixed_boards():
    # Each of the mixed rows from other turns, most of them with marbles, steps and takings.
    numbers = mixed_numbers(11)
    for rows in mixed_rows():
        board = turned(rows, [next(numbers) % len(row) for row in rows])
        for done in range(next(numbers) % 4):
            board.load(next(numbers) % len(rows), 1 + next(numbers) % 3)
            for stepped in range(next(numbers) % 30):
                lying = [at for at, many in enumerate(board.loads) if many > 0]
                if lying:
                    step(board, lying[next(numbers) % len(lying)])
        yield board
