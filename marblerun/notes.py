"""Boards written as texts, and read back."""

from marblerun.board import PIT, Board
from marblerun.errors import BoardError, NoBoard

HEAD = "board"
MARK = ">"
PIT_WORD = "pit"
FIGURES = "0123456789"
MOST_FIGURES = 20


def written(board):
    lines = [HEAD + " " + str(board.taken)]
    for at in range(len(board.rows)):
        lines.append(site_line(board, at))
    return "\n".join(lines)


def site_line(board, at):
    numbers = [board.turns[at], board.loads[at], board.steps[at]]
    ways = [way_word(way) for way in board.rows[at]]
    return " ".join([str(number) for number in numbers] + [MARK] + ways)


def way_word(way):
    return PIT_WORD if way == PIT else str(way)


def read(text):
    # Split at each single blank, a line with two of them side by side has an empty word, which is no number.
    lines = [line.split(" ") for line in text.split("\n")]
    taken = read_head(lines[0])
    numbers = [read_numbers(words) for words in lines[1:]]
    rows = [read_row(words) for words in lines[1:]]
    try:
        board = told(rows, numbers)
    except BoardError as refusal:
        raise NoBoard("no board can be told, turned and loaded so") from refusal
    board.taken = taken
    return board


def told(rows, numbers):
    board = Board(rows)
    for at, of_site in enumerate(numbers):
        board.turn_to(at, of_site[0])
        board.load(at, of_site[1])
        board.steps[at] = of_site[2]
    return board


def read_head(words):
    if len(words) != 2 or words[0] != HEAD:
        raise NoBoard("the first line tells the takings")
    return read_number(words[1])


def read_numbers(words):
    if words[3:4] != [MARK]:
        raise NoBoard("a site's line tells its turn, load and steps, and then its exits")
    return [read_number(word) for word in words[:3]]


def read_row(words):
    return [read_way(word) for word in words[4:]]


def read_way(word):
    return PIT if word == PIT_WORD else read_number(word)


def read_number(word):
    if not 1 <= len(word) <= MOST_FIGURES or not all([sign in FIGURES for sign in word]):
        raise NoBoard(f"a number has 1 to {MOST_FIGURES} figures and nothing else")
    if word[0] == "0" and word != "0":
        raise NoBoard("a number has no nought ahead")
    return int(word)
