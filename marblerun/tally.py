"""The tally: how many steps of each site the run has."""

from marblerun.steps import run


def tally(board, most):
    trial = board.twin()
    run(trial, most)
    # Steps that were done before the run are no steps of it.
    return [after - before for before, after in zip(board.steps, trial.steps)]
