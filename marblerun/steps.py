"""Marbles moved: one step of a site, and the run until no marble lies."""

from marblerun.board import PIT, check_site
from marblerun.errors import NoMarble, TooLong
from marblerun.ways import check_open


def step(board, at):
    check_site(board, at)
    if board.loads[at] < 1:
        raise NoMarble(f"no marble lies on site {at}")
    row = board.rows[at]
    way = row[board.turns[at]]
    board.loads[at] -= 1
    if way == PIT:
        board.taken += 1
    else:
        board.loads[way] += 1
    board.turns[at] = (board.turns[at] + 1) % len(row)
    board.steps[at] += 1
    return way


def loaded(board):
    return [at for at, many in enumerate(board.loads) if many > 0]


def run(board, most):
    check_open(board)
    # A run that is refused leaves no step behind, so the steps are tried on a twin.
    trial = board.twin()
    done = 0
    while done <= most:
        waiting = loaded(trial)
        if not waiting:
            board.stand_like(trial)
            return done
        step(trial, waiting[0])
        done += 1
    raise TooLong(f"the run has more than {most} steps")
