"""Where the exits lead: what reaches the pit, which boards are open, and which are trees."""

from marblerun.board import PIT, check_site
from marblerun.errors import NotOpen


def reached(rows):
    known = {PIT: True}
    # A pass that finds no new site is the last of use, so as many passes as sites are enough.
    for again in range(len(rows)):
        for at, row in enumerate(rows):
            if any([way in known for way in row]):
                known[at] = True
    return [at in known for at in range(len(rows))]


def is_open(board):
    return all(reached(board.rows))


def check_open(board):
    if not is_open(board):
        raise NotOpen("the pit is not reached from each site")


def last_exit(board, at):
    check_site(board, at)
    # Of the turn nought this is the place -1, which Python takes as the row's end.
    return board.rows[at][board.turns[at] - 1]


def is_tree(board):
    # With its last exit alone in each row, a board has one way from each site.
    return all(reached([[last_exit(board, at)] for at in range(len(board.rows))]))
