"""A board: rows of exits, and what stands on its sites."""

from marblerun.errors import NoExit, NoPlace, NoSite, TooMany

PIT = -1
MOST_SITES = 12
MOST_EXITS = 8
MOST_MARBLES = 400


def check_rows(rows):
    if not 1 <= len(rows) <= MOST_SITES:
        raise NoSite(f"a board has 1 to {MOST_SITES} sites")
    for row in rows:
        check_row(row, len(rows))


def check_row(row, sites):
    if not 1 <= len(row) <= MOST_EXITS:
        raise NoExit(f"a site has 1 to {MOST_EXITS} exits")
    for way in row:
        if way != PIT and not 0 <= way < sites:
            raise NoExit(f"no exit leads to {way}")


def check_site(board, at):
    # Python would take a number below nought as one counted from the end.
    if not 0 <= at < len(board.rows):
        raise NoSite(f"no site has the number {at}")


class Board:
    def __init__(self, rows):
        check_rows(rows)
        # Each row is copied by itself: what was handed in may be changed later, or hold one list twice.
        self.rows = [list(row) for row in rows]
        self.turns = [0] * len(rows)
        self.loads = [0] * len(rows)
        self.steps = [0] * len(rows)
        self.taken = 0

    def turn_to(self, at, place):
        check_site(self, at)
        if not 0 <= place < len(self.rows[at]):
            raise NoPlace(f"the row of site {at} has no place {place}")
        self.turns[at] = place

    def load(self, at, many):
        check_site(self, at)
        if sum(self.loads) + many > MOST_MARBLES:
            raise TooMany(f"at most {MOST_MARBLES} marbles lie on a board")
        self.loads[at] += many

    def twin(self):
        other = Board(self.rows)
        other.stand_like(self)
        return other

    def stand_like(self, other):
        # The lists are copied, so that neither board is changed with the other.
        self.turns = list(other.turns)
        self.loads = list(other.loads)
        self.steps = list(other.steps)
        self.taken = other.taken
