"""How a board stands, as a value that later deeds don't change."""


def standing(board):
    rows = tuple(tuple(row) for row in board.rows)
    return rows, tuple(board.turns), tuple(board.loads), tuple(board.steps), board.taken
