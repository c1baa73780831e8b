"""The rows' side of walks: rows that act on symbolic words, up to their next event, end or named point."""

from keptrest.coderows import reads_value, slots_read
from keptrest.moves import later_numbers
from keptrest.signs import NO, VALUE, constant_told, head_of_call, is_sign, signs_in, written
from keptrest.spots import free_numbers_of


class RowSide:
    """Where the rows' side of a walk stands; None is a slot or VALUE that holds nothing.

    What has been told last waits for its answer, and the point behind it is the row's own to find.
    """

    def __init__(self, spots, code, point):
        self.spots = spots
        self.rows = code[0]
        self.maps = code[1]
        self.point = point
        self.window = []
        self.value = None
        self.pushed = []
        self.answers = 0
        self.sure = {}
        self.has_moved = False

    def begin(self, sure):
        """Takes the window and VALUE of the named point; sure are the program's sure numbers."""
        chart = self.maps[self.point]
        numbers = named_numbers(chart, self.spots)
        many = max([source + 1 for source, _ in numbers if type(source) is int], default=0)
        self.window = [None] * many
        for source, number in numbers:
            if type(source) is int:
                self.window[source] = ("slot", source)
                if number in sure:
                    self.sure[("slot", source)] = sure[number]
        self.value = VALUE if chart[0] == "give" else None

    def copied(self):
        """The same side once more, to go on elsewhere."""
        other = RowSide(self.spots, (self.rows, self.maps), self.point)
        other.window = list(self.window)
        other.value = self.value
        other.pushed = list(self.pushed)
        other.answers = self.answers
        other.sure = {sign: spot for sign, spot in self.sure.items()}
        other.has_moved = self.has_moved
        return other

    def go_to(self, point):
        self.point = point
        self.has_moved = True

    def words_of(self, slots):
        """The words of some slots that hold something."""
        return tuple([self.window[slot] for slot in slots])

    def lacks(self, row):
        """True if a row reads what holds nothing."""
        if self.value is None and reads_value(row):
            return True
        for slot in slots_read(row):
            if slot >= len(self.window) or self.window[slot] is None:
                return True
        return False

    def is_at_name(self):
        """True if the side has come to a named point."""
        return self.has_moved and self.maps[self.point] is not None

    def take_row(self):
        """Does the row at the point: None if it is quiet, otherwise what advance tells of it."""
        row = self.rows[self.point]
        if self.lacks(row):
            return ("empty",)
        doing = DOINGS[row[0]]
        return doing(self, row)

    def advance(self):
        """Goes on to ("empty",), ("named",), ("event", HEAD, WORDS, ROOTS) or ("end", HEAD, WORDS)."""
        while not self.is_at_name():
            told = self.take_row()
            if told is not None:
                return told
        return ("named",)

    def answer(self, head):
        """Gives the answer of an event that has one, and goes on behind its row."""
        row = self.rows[self.point]
        sign = ("result", self.answers)
        self.answers += 1
        if head[0] == "make":
            if head[1] == ("fn",):
                self.sure[sign] = self.spots.at[head[2]]
            live = {slot: True for slot in row[4]}
            self.window = [word if slot in live else None for slot, word in enumerate(self.window)]
        self.value = sign
        self.go_to(row[-1])
        return sign

    def fill_done(self):
        """Goes on behind a row that has filled a box."""
        self.value = ()
        self.go_to(self.rows[self.point][-1])

    def choose(self, is_yes):
        """Goes on at one of the sides of a test."""
        self.go_to(self.rows[self.point][1 if is_yes else 2])


def named_numbers(chart, spots):
    """The pairs (SOURCE, NUMBER) of a map; the number is None where the source is no name's."""
    found = []
    if chart[0] == "eval":
        found.extend(list(zip(chart[2], free_numbers_of(spots.at[chart[1]]))))
    for kind, place, done, sources in chart[-1]:
        numbers = [None] if kind == "set" else [None] * done + list(later_numbers(spots.at[place], done))
        found.extend(list(zip(sources, numbers)))
    return found


def do_load(side, row):
    side.value = written(row[1])
    side.go_to(row[2])


def do_from(side, row):
    side.value = side.window[row[1]]
    side.go_to(row[2])


def do_to(side, row):
    while len(side.window) <= row[1]:
        side.window.append(None)
    side.window[row[1]] = side.value
    side.go_to(row[2])


def do_open(side, row):
    return ("event", ("open",), side.words_of(row[1:2]), None)


def do_fill(side, row):
    return ("event", ("fill",), (side.window[row[1]], side.value), None)


def do_prim(side, row):
    _, name, place, slots, after = row
    words = side.words_of(slots)
    told = constant_told(name, words)
    if told is None:
        return ("event", ("prim", name, place), words, None)
    if told[0] == "trap":
        return ("end", ("stop", told[1], place), ())
    side.value = told[1]
    side.go_to(after)
    return None


def do_make(side, row):
    _, what, place, slots, live, _ = row
    words = side.words_of(slots)
    held = [*words, *side.words_of(live)]
    for _, pushed in side.pushed:
        held.extend(pushed)
    return ("event", ("make", what, place), words, signs_in(held))


def do_test(side, row):
    if is_sign(side.value):
        return ("event", ("test",), (side.value,), None)
    side.go_to(row[2] if side.value == NO else row[1])
    return None


def do_push(side, row):
    side.pushed.append((row[1], side.words_of(row[2])))
    side.go_to(row[3])


def do_go(side, row):
    side.window = list(side.words_of(row[2]))
    side.go_to(row[1])


def do_back(side, _):
    return ("end", ("back",), (side.value,))


def do_call(side, row):
    head, words = head_of_call(row[1], side.words_of(row[2]), side.sure)
    return ("end", head, words)


def do_known(side, row):
    return ("end", row[:3], side.words_of(row[3]))


def do_keep(side, row):
    return ("end", row[:2], side.words_of(row[2:]))


def do_wind(side, row):
    return ("end", row[:2], side.words_of(row[2]))


def do_stop(_, row):
    return ("end", row, ())


DOINGS = {
    "load": do_load,
    "from": do_from,
    "to": do_to,
    "open": do_open,
    "fill": do_fill,
    "prim": do_prim,
    "make": do_make,
    "test": do_test,
    "push": do_push,
    "go": do_go,
    "back": do_back,
    "call": do_call,
    "known": do_known,
    "keep": do_keep,
    "wind": do_wind,
    "stop": do_stop,
}
