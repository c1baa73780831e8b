"""What all machines share: their registers, and how rows are done.

A machine's words are constants and addresses, as its own class has them; its frames are (WORD, POINT or PLACE, its
words ..). What a step needs behind a making stands in held, as collecting may move it. A machine's class tells how
cells are looked at and made, and how frames are put behind the stack and taken off:
make, make_kept and push tell None or False where there is no room.
"""

NONE = ("none",)
GONE = ("gone",)
BACK_ROW = ("back",)


class Engine:
    """The registers of a machine, and the words that are roots of the makings of a step.

    named are the words that the row of the step names, fresh those that were made in it so far.
    """

    def __init__(self, code, room, deep):
        self.rows = code[0]
        self.entries = {entry[0]: entry for entry in code[2]}
        self.room = room
        self.deep = deep
        self.point = code[3]
        self.value = NONE
        self.window = []
        self.winds = ()
        self.inputs = ()
        self.output = []
        self.made = 0
        self.held = []
        self.named = []
        self.fresh = []

    def words_in(self, slots):
        """The words of some slots, as a list."""
        return [self.window[slot] for slot in slots]

    def leave_window(self):
        """Empties VALUE and the window: what the step still needs stands elsewhere."""
        self.value = NONE
        self.window = []

    def keep_live(self, live):
        """Empties VALUE and all slots but some."""
        kept = {slot: True for slot in live}
        self.value = NONE
        self.window = [word if slot in kept else GONE for slot, word in enumerate(self.window)]

    def go_back(self, value):
        """The row "back" comes next, with a value."""
        self.value = value
        self.window = []
        self.point = "back"


def trap(word, place):
    """The ending of a run that is trapped."""
    return ("trap", word, place)


def fits(entry, many):
    """True if a function takes so many words."""
    return many == entry[1] or (entry[2] and many > entry[1])


def made_rest(engine, many, place):
    """Makes the held words behind the callee and so many others one list; False if there is no room."""
    rest = ()
    for at in range(len(engine.held) - 1, many, -1):
        rest = engine.make("pair", place, [engine.held[at], rest])
        if rest is None:
            return False
    engine.held = [*engine.held[:many + 1], rest]
    return True


def made_boxes(engine, boxed, place):
    """Makes boxes of the held words that are boxed; False if there is no room."""
    for k, is_boxed in enumerate(boxed):
        if is_boxed:
            box = engine.make("box", place, [engine.held[k + 1]])
            if box is None:
                return False
            engine.held[k + 1] = box
    return True


def enter(engine, place):
    """The function that is held is called with the words behind it, as many as it takes."""
    _, many, has_rest, boxed, picks, point = engine.entries[engine.cell_place(engine.held[0])]
    if engine.stack_length() > engine.deep:
        return trap("deep", place)
    if has_rest and not made_rest(engine, many, place):
        return trap("memory", place)
    if not made_boxes(engine, boxed, place):
        return trap("memory", place)
    callee = engine.held[0]
    engine.window = [engine.own_word(callee, k) if kind == "own" else engine.held[k + 1] for kind, k in picks]
    engine.value = NONE
    engine.point = point
    return None


def call(engine, words, place):
    """Calls the first word with the others."""
    engine.held = words
    kind = engine.cell_kind(words[0])
    if kind == "fn":
        if not fits(engine.entries[engine.cell_place(words[0])], len(words) - 1):
            return trap("count", place)
        return enter(engine, place)
    if kind != "kept":
        return trap("no function", place)
    if len(words) != 2:
        return trap("count", place)
    engine.clear_stack()
    return go_on(engine, place)


def next_wind(engine, winds):
    """The end of some winds whose REST is WINDS; () if WINDS is no end of them."""
    while winds != ():
        rest = engine.part(winds, 2)
        if rest == engine.winds:
            return winds
        winds = rest
    return ()


def go_on(engine, place):
    """The run goes on to the kept cell that is held, with the word held behind it."""
    kept, value = engine.held
    target = engine.part(kept, 0)
    if engine.winds == target:
        engine.restore_stack(kept)
        engine.go_back(value)
        return None
    wind = next_wind(engine, target)
    if wind == ():
        where = engine.cell_place(engine.winds)
        function = engine.part(engine.winds, 1)
        engine.winds = engine.part(engine.winds, 2)
        frame = ("leaving", place, kept, value)
    else:
        where = engine.cell_place(wind)
        function = engine.part(wind, 0)
        frame = ("entering", place, kept, value, wind)
    return call_upon(engine, frame, function, where)


def call_upon(engine, frame, function, place):
    """Puts a frame behind the stack and calls a function with no words at a place."""
    engine.held = [function]
    if not engine.push(frame):
        return trap("memory", frame[1])
    return call(engine, [engine.held[0]], place)
