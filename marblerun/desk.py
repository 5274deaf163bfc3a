"""Deeds done one behind the other, each with its answer."""

from marblerun.back import run_back
from marblerun.errors import NoMarble, NoPlace, NoSite, NotBare, NotOpen, NotTree, TooLong, TooMany
from marblerun.steps import run, step


def play(board, deeds):
    answers = []
    for deed in deeds:
        answers.append(answer_to(board, deed))
    return answers


def answer_to(board, deed):
    try:
        return do(board, deed)
    except NoSite:
        return refused("NoSite")
    except NoPlace:
        return refused("NoPlace")
    except NoMarble:
        return refused("NoMarble")
    except TooMany:
        return refused("TooMany")
    except NotOpen:
        return refused("NotOpen")
    except NotBare:
        return refused("NotBare")
    except NotTree:
        return refused("NotTree")
    except TooLong:
        return refused("TooLong")


def refused(name):
    return ("refused", name)


def do(board, deed):
    kind = deed[0]
    if kind == "load":
        return board.load(deed[1], deed[2])
    if kind == "turn":
        return board.turn_to(deed[1], deed[2])
    if kind == "step":
        return step(board, deed[1])
    if kind == "run":
        return run(board, deed[1])
    return run_back(board, deed[1], deed[2])
