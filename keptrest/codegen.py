"""The compiler.

It follows the meaning with slots in the place of words: a frame is local, its words in slots, as long as no call
may be done above it. Otherwise it is pushed ahead of its child, which then begins at a named point of its own
and ends with a row "back". So each node has its rows once. Sides of a test that go on alike join at a named point.
"""

from keptrest.codemaps import entry_of
from keptrest.coderows import LAST_SLOT
from keptrest.errors import TooMany
from keptrest.moves import after_let, after_seq, after_test, entered, is_last, next_argument
from keptrest.spots import Spots, bits_of, free_numbers_of, mask_of

IN_VALUE = -1


class Local:
    """A frame upon those below it (None for none); mask has the slots of all of them."""

    def __init__(self, frame, below):
        self.frame = frame
        self.below = below
        self.mask = mask_of(frame[3]) | mask_below(below)


class Join:
    """Where the sides of a test come together, upon the frames into which they give their values."""

    def __init__(self, below):
        self.frame = None
        self.below = below
        self.mask = below.mask
        self.holes = []


def mask_below(local):
    """The slots of all frames of a local."""
    return 0 if local is None else local.mask


def least_free(mask):
    """The least slot that is not in a mask."""
    slot = (mask ^ (mask + 1)).bit_length() - 1
    if slot > LAST_SLOT:
        raise TooMany("slots")
    return slot


def local_frames(local):
    """The local frames of a map, the oldest first."""
    frames = []
    while local is not None:
        if local.frame is not None:
            kind, spot, done, words = local.frame
            frames.append((kind, spot.place, done, words))
        local = local.below
    return tuple(frames[::-1])


class Task:
    """Rows that are still to be written: holes are the pairs (LIST, INDEX) that wait for their first point."""

    def __init__(self, holes, chart, control, local):
        self.holes = holes
        self.chart = chart
        self.control = control
        self.local = local


class Compiler:
    """Writes rows one behind the other. control is ("eval", SPOT, SLOTS), ("give", SLOT) or None at an end."""

    def __init__(self, spots):
        self.spots = spots
        self.rows = []
        self.maps = []
        self.tasks = []
        self.holes = []
        self.chart = None
        self.control = None
        self.local = None

    def begin(self, task):
        self.holes = task.holes
        self.chart = task.chart
        self.control = task.control
        self.local = task.local

    def emit(self, *parts):
        """Writes a row; its last part, None, is the point behind it."""
        row = list(parts)
        point = len(self.rows)
        for target, index in self.holes:
            target[index] = point
        self.rows.append(row)
        self.maps.append(self.chart)
        self.chart = None
        self.holes = [(row, len(row) - 1)] if row[-1] is None else []
        return row

    def end_with(self, *parts):
        """Writes a row behind which nothing goes on."""
        self.emit(*parts)
        self.control = None

    def give_value(self):
        self.control = ("give", IN_VALUE)

    def need_value(self):
        """Writes what puts the given value into VALUE."""
        if self.control[1] != IN_VALUE:
            self.emit("from", self.control[1], None)

    def need_slot(self, mask):
        """The slot of the given value, which is put into one that is not in a mask if it stands in VALUE."""
        if self.control[1] != IN_VALUE:
            return self.control[1]
        slot = least_free(mask)
        self.emit("to", slot, None)
        return slot

    def go_into(self, frame, ahead):
        """Goes on with a child of a frame's node."""
        spot, slots = ahead
        if not spot.heavy:
            self.local = Local(frame, self.local)
            self.control = ("eval", spot, slots)
            return
        kind, owner, done, words = frame
        many = len(words)
        if many > LAST_SLOT + 1:
            raise TooMany("slots")
        row = self.emit("push", None, words, None)
        kept = (kind, owner, done, tuple(range(many)))
        chart = ("give", ((kind, owner.place, done, kept[3]),))
        self.tasks.append(Task([(row, 1)], chart, ("give", IN_VALUE), Local(kept, None)))
        self.chart = ("eval", spot.place, slots, ())
        self.control = ("eval", spot, slots)

    def write_all(self):
        """Writes all rows of the tasks."""
        while self.tasks:
            task = self.tasks.pop()
            if not task.holes:
                continue
            self.begin(task)
            while self.control is not None:
                if self.control[0] == "eval":
                    eval_node(self, self.control[1], self.control[2])
                else:
                    give_value_to(self, self.local)


def eval_node(compiler, spot, slots):
    """Writes what begins to evaluate a node."""
    kind = spot.kind
    if kind == "const":
        compiler.emit("load", spot.node[1], None)
    elif kind == "var":
        if not compiler.spots.is_boxed(spot.node[1]):
            compiler.control = ("give", slots[0])
            return
        compiler.emit("open", slots[0], None)
    elif kind == "fn":
        compiler.emit("make", ("fn",), spot.place, slots, bits_of(mask_below(compiler.local)), None)
    elif not spot.below:
        compiler.emit("prim", spot.node[1], spot.place, (), None)
    else:
        frame, ahead = entered(spot, slots)
        compiler.go_into(frame, ahead)
        return
    compiler.give_value()


def give_value_to(compiler, local):
    """Writes what gives the value to the newest frame."""
    if local is None:
        compiler.need_value()
        compiler.end_with("back")
    elif local.frame is None:
        compiler.need_value()
        local.holes.extend(list(compiler.holes))
        compiler.control = None
    else:
        compiler.local = local.below
        giving = GIVINGS[local.frame[0]]
        giving(compiler, local)


def give_seq(compiler, local):
    compiler.control = ("eval", *after_seq(local.frame))


def give_set(compiler, local):
    compiler.need_value()
    compiler.emit("fill", local.frame[3][0], None)
    compiler.give_value()


def give_let(compiler, local):
    """The name's word stays where it is; if its box is made, the value is needed for that alone."""
    spot = local.frame[1]
    number = spot.node[1]
    if compiler.spots.is_boxed(number):
        slot = compiler.need_slot(local.mask)
        compiler.emit("make", ("box",), spot.place, (slot,), bits_of(local.mask), None)
        compiler.give_value()
    if number in free_numbers_of(spot.below[1]):
        slot = compiler.need_slot(local.mask)
        compiler.control = ("eval", *after_let(local.frame, slot))
    else:
        compiler.control = ("eval", *after_let(local.frame, IN_VALUE))


def give_if(compiler, local):
    """The False side waits until the True side has been written, and the join until both have been."""
    compiler.need_value()
    row = compiler.emit("test", None, None)
    below = local.below
    if below is not None and below.frame is not None:
        below = Join(below)
        chart = ("give", local_frames(below))
        compiler.tasks.append(Task(below.holes, chart, ("give", IN_VALUE), below.below))
    other = ("eval", *after_test(local.frame, 2))
    compiler.tasks.append(Task([(row, 2)], None, other, below))
    compiler.holes = [(row, 1)]
    compiler.local = below
    compiler.control = ("eval", *after_test(local.frame, 1))


def give_args(compiler, local):
    slot = compiler.need_slot(local.mask)
    if is_last(local.frame):
        done_args(compiler, local.frame[1], (*local.frame[3], slot))
    else:
        frame, ahead = next_argument(local.frame, slot)
        compiler.go_into(frame, ahead)


def done_args(compiler, spot, slots):
    """Writes what a call or a prim does with its words in slots."""
    name = spot.node[1] if spot.kind == "prim" else "call"
    if name == "call":
        compiler.end_with("call", spot.place, slots)
    elif name == "keep":
        compiler.end_with("keep", spot.place, slots[0])
    elif name == "wind":
        compiler.end_with("wind", spot.place, slots)
    elif name == "give up":
        compiler.end_with("stop", "given up", spot.place)
    elif name == "pair":
        compiler.emit("make", ("pair",), spot.place, slots, bits_of(mask_below(compiler.local)), None)
        compiler.give_value()
    else:
        compiler.emit("prim", name, spot.place, slots, None)
        compiler.give_value()


GIVINGS = {"if": give_if, "let": give_let, "seq": give_seq, "set": give_set, "args": give_args}


def entry_tasks(spots, entries):
    """The tasks of the bodies of all fns; puts lists of their entries, without points, into a list."""
    tasks = []
    for spot in spots.all_fns():
        entry = [*entry_of(spot, spots), None]
        entries.append(entry)
        body = spot.below[0]
        slots = tuple(range(len(entry[4])))
        if len(slots) > LAST_SLOT + 1:
            raise TooMany("slots")
        tasks.append(Task([(entry, 5)], ("eval", body.place, slots, ()), ("eval", body, slots), None))
    return tasks


def compiled(program):
    """A code of a program."""
    spots = Spots(program)
    compiler = Compiler(spots)
    entries = []
    compiler.tasks = entry_tasks(spots, entries)
    begin = [None]
    compiler.tasks.append(Task([(begin, 0)], ("eval", (), (), ()), ("eval", spots.nodes[0], ()), None))
    compiler.write_all()
    rows = tuple([tuple(row) for row in compiler.rows])
    return (rows, tuple(compiler.maps), tuple([tuple(entry) for entry in entries]), begin[0])
