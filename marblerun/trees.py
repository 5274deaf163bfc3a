"""Trees counted: the grid of a board, its determinant, and the round of a site."""

from marblerun.board import check_site
from marblerun.ways import check_open


def grid(board):
    return [grid_row(board, at) for at in range(len(board.rows))]


def grid_row(board, at):
    row = board.rows[at]
    numbers = [-row.count(other) for other in range(len(board.rows))]
    numbers[at] = len(row) - row.count(at)
    return numbers


# One row after the other is taken to the top, and the first column of the others cleared with it; what is left is a
# square of one row and one column less. The last number that led a row is the determinant, but for its sign.
def det(square):
    rest = square
    sign = 1
    lead = 1
    while rest:
        led = [place for place, row in enumerate(rest) if row[0] != 0]
        if not led:
            return 0
        place = led[0]
        # On its way from an odd place to the top, a row changes places with an odd number of rows.
        if place % 2 == 1:
            sign = -sign
        top = rest[place]
        rest = [cleared(row, top, lead) for row in rest[:place] + rest[place + 1:]]
        lead = top[0]
    return sign * lead


# Each number that comes here is the determinant of a part of the first square (so Bareiss has shown). That is why the
# division by the lead of the round before leaves nothing over, and why the numbers stay short.
def cleared(row, top, lead):
    return [(top[0] * row[place] - row[0] * top[place]) // lead for place in range(1, len(row))]


def trees(board):
    return det(grid(board))


def round_of(board, at):
    check_site(board, at)
    check_open(board)
    square = grid(board)
    many = det(square)
    divisor = many
    for place in range(len(square)):
        divisor = greatest_divisor(divisor, det(with_mark(square, place, at)))
    return many // divisor


def with_mark(square, place, at):
    mark = [0] * len(square)
    mark[at] = 1
    return square[:place] + [mark] + square[place + 1:]


def greatest_divisor(one, other):
    while other != 0:
        left = one % other
        one = other
        other = left
    return one
