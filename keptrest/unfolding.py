"""Codes written anew along their walks: each row to which a side of a walk comes is written once for it.

So what a row finds in its walk is known where it is written. Idle rows are left out or load what they give, and
constant prims that trap become rows "stop": then each way of the new code is a side of one of its walks, which
makes the new code sound.
"""

from keptrest.code import named_points
from keptrest.coderows import MOST_ROWS
from keptrest.errors import TooMany
from keptrest.rowside import RowSide
from keptrest.signs import plain_word
from keptrest.spots import Spots

IDLE_ROWS = ("test", "prim")
NO_LIMIT = 10 ** 30


class Unfolding:
    """Writes the rows of all walks, and notes the points of rows that are walked, idle and knowable.

    Named points come first in the new code, in their order; moved leads them to their new points. A hole is a row
    and the index of a point in it that is still to be told, or None and the new point of a named one.
    """

    def __init__(self, program, code, calls_known, most_rows):
        self.code = code
        self.calls_known = calls_known
        self.most_rows = most_rows
        self.spots = Spots(program)
        self.sure = self.spots.sure_fns()
        self.named = named_points(code)
        self.moved = {point: k for k, point in enumerate(self.named)}
        self.rows = [None] * len(self.named)
        self.walked = {}
        self.idle = {}
        self.knowable = {}
        self.waiting = []

    def unfold_all(self):
        """Writes the rows of the walks from all named points."""
        for point in self.named:
            side = RowSide(self.spots, self.code, point)
            side.begin(self.sure)
            self.waiting = [(side, (None, self.moved[point]))]
            while self.waiting:
                side, hole = self.waiting.pop()
                self.unfold_side(side, hole)

    def unfold_side(self, side, hole):
        """Writes the rows of one side; the False side of a test waits."""
        while not side.is_at_name():
            point = side.point
            row = self.code[0][point]
            told = side.take_row()
            self.note(point, row, told)
            if told is None and row[0] == "test":
                continue
            new = self.write(self.new_row(row, told, side), hole)
            if new[-1] is not None:
                return
            if told is not None:
                self.go_behind(side, told[1], new)
            hole = (new, len(new) - 1 if row[0] != "test" else 1)
        hole[0][hole[1]] = self.moved[side.point]

    def note(self, point, row, told):
        """Notes what a row, to which a side has come, turned out to be."""
        self.walked[point] = True
        if told is None and row[0] in IDLE_ROWS:
            self.idle[point] = True
        elif row[0] == "call" and told[1][0] != "call":
            self.knowable[point] = True

    def write(self, row, hole):
        """Puts a row where a hole leads, or in the place of a named point's row, and gives it."""
        target, index = hole
        if target is None:
            self.rows[index] = row
        else:
            target[index] = len(self.rows)
            self.rows.append(row)
            if len(self.rows) > self.most_rows:
                raise TooMany("rows")
        return row

    def new_row(self, row, told, side):
        """What is written for a row, as a list; None in it is a point that is still to be told."""
        word = row[0]
        if told is None:
            if word == "prim":
                return ["load", plain_word(side.value), None]
            if word == "go":
                return ["go", self.moved[row[1]], row[2]]
            return ["push", self.moved[row[1]], row[2], None] if word == "push" else [*row[:-1], None]
        head = told[1]
        if told[0] == "end":
            if word == "prim" or (word == "call" and self.calls_known):
                return list(head) if head[0] == "stop" else [*head, row[2]]
            return list(row)
        return ["test", None, None] if word == "test" else [*row[:-1], None]

    def go_behind(self, side, head, row):
        """A side goes on behind an event."""
        if head == ("test",):
            other = side.copied()
            other.choose(False)
            self.waiting.append((other, (row, 2)))
            side.choose(True)
        elif head == ("fill",):
            side.fill_done()
        else:
            side.answer(head)

    def new_code(self):
        """The code of the rows that have been written."""
        _, maps, entries, begin = self.code
        charts = [maps[point] for point in self.named] + [None] * (len(self.rows) - len(self.named))
        heads = tuple([(*entry[:-1], self.moved[entry[-1]]) for entry in entries])
        return (tuple([tuple(row) for row in self.rows]), tuple(charts), heads, self.moved[begin])


def toured(program, code, calls_known, most_rows):
    """The unfolding of a code that has gone along all its walks."""
    unfolding = Unfolding(program, code, calls_known, most_rows)
    unfolding.unfold_all()
    return unfolding


def unfolded(program, code, calls_known):
    """A code unfolded; if calls are to be known, rows "call" whose functions the walks tell become what they are."""
    return toured(program, code, calls_known, MOST_ROWS).new_code()


def walks_through(program, code):
    """An unfolding, however great, that has noted what the rows of a code turned out to be."""
    return toured(program, code, False, NO_LIMIT)
