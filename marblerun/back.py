"""Running back: the turns from which one marble led to those that stand."""

from marblerun.board import PIT, check_site
from marblerun.errors import NotBare, NotTree, TooLong
from marblerun.steps import loaded
from marblerun.ways import check_open, is_tree, last_exit


def check_back(board, at):
    check_site(board, at)
    check_open(board)
    if loaded(board):
        raise NotBare("a marble lies on the board")
    if not is_tree(board):
        raise NotTree("last exits do not lead from each site to the pit")


def run_back(board, at, most):
    check_back(board, at)
    # A way back that is refused leaves no turn changed, so the turns are tried on a twin.
    trial = board.twin()
    done = turn_back(trial, at, most)
    board.stand_like(trial)
    return done


# A step can't be undone from the turns alone: one must know which site the marble came from. So the pit is taken
# for a place that leads to the start. Last exits then make just one ring, the marble lies on it, and it came from
# the place ahead of it there. Once that place is the pit, the marble is where it was laid: all steps are undone.
def turn_back(board, start, most):
    here = place_ahead(board, start, PIT)
    done = 0
    while here != PIT and done <= most:
        board.turns[here] = (board.turns[here] - 1) % len(board.rows[here])
        done += 1
        here = place_ahead(board, start, here)
    if done > most:
        raise TooLong(f"the run has more than {most} steps")
    return done


def place_ahead(board, start, goal):
    here = goal
    onward = leads_to(board, start, here)
    while onward != goal:
        here = onward
        onward = leads_to(board, start, here)
    return here


def leads_to(board, start, here):
    if here == PIT:
        return start
    return last_exit(board, here)
