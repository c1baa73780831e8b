"""The rows of codes, done by a machine. Each gives None, or the ending of the run."""

from keptrest.engine import BACK_ROW, call, call_upon, enter, go_on, trap

OPEN = ("open",)


def broken(engine):
    """The ending of a run that finds no box, function or wind where one must be."""
    return ("broken", engine.point)


def do_load(engine, row):
    engine.value = row[1]
    engine.point = row[2]


def do_from(engine, row):
    engine.value = engine.window[row[1]]
    engine.point = row[2]


def do_to(engine, row):
    window = engine.window
    while len(window) <= row[1]:
        window.append(("gone",))
    window[row[1]] = engine.value
    engine.point = row[2]


def do_open(engine, row):
    box = engine.window[row[1]]
    if engine.cell_kind(box) != "box":
        return broken(engine)
    engine.value = engine.part(box, 0)
    engine.point = row[2]
    return None


def do_fill(engine, row):
    box = engine.window[row[1]]
    if engine.cell_kind(box) != "box":
        return broken(engine)
    engine.fill_box(box, engine.value)
    engine.value = ()
    engine.point = row[2]
    return None


def do_prim(engine, row):
    _, name, place, slots, after = row
    words = engine.words_in(slots)
    if name == "show":
        engine.output.append(engine.text_of(words[0]))
        engine.value = ()
    elif name == "more":
        engine.value = engine.inputs != ()
    elif name == "ask":
        if engine.inputs == ():
            return trap("input", place)
        engine.value = engine.inputs[0]
        engine.inputs = engine.inputs[1:]
    else:
        told = engine.prim_told(name, words)
        if told[0] == "trap":
            return trap(told[1], place)
        engine.value = told[1]
    engine.point = after
    return None


def do_make(engine, row):
    _, what, place, slots, live, after = row
    words = engine.words_in(slots)
    engine.begin_making([*words, *engine.words_in(live)])
    engine.keep_live(live)
    word = engine.make(what[0], place, words)
    if word is None:
        return trap("memory", place)
    engine.value = word
    engine.point = after
    return None


def do_test(engine, row):
    engine.point = row[2] if engine.value is False else row[1]


def do_push(engine, row):
    words = engine.words_in(row[2])
    engine.begin_push(words, row[3])
    if not engine.push(("point", row[1], *words)):
        return trap("memory", ())
    engine.point = row[3]
    return None


def do_go(engine, row):
    engine.window = engine.words_in(row[2])
    engine.point = row[1]


def do_back(engine, _):
    """The newest frame is taken off and goes on."""
    engine.begin_making([engine.value])
    frame = engine.take_frame()
    if frame is None:
        return ("end", engine.text_of(engine.value))
    giving = FRAMES[frame[0]]
    return giving(engine, frame)


def do_call(engine, row):
    words = engine.words_in(row[2])
    engine.begin_making(list(words))
    engine.leave_window()
    return call(engine, words, row[1])


def do_known(engine, row):
    words = engine.words_in(row[3])
    if engine.cell_kind(words[0]) != "fn" or engine.cell_place(words[0]) != row[2]:
        return broken(engine)
    engine.begin_making(list(words))
    engine.leave_window()
    engine.held = words
    return enter(engine, row[1])


def do_keep(engine, row):
    _, place, slot = row
    word = engine.window[slot]
    engine.begin_making([word])
    engine.leave_window()
    engine.held = [word]
    kept = engine.make_kept(place)
    if kept is None:
        return trap("memory", place)
    return call(engine, [engine.held[0], kept], place)


def do_wind(engine, row):
    _, place, slots = row
    words = engine.words_in(slots)
    engine.begin_making(list(words))
    engine.leave_window()
    return call_upon(engine, ("began", place, *words), words[0], place)


def do_stop(_, row):
    return trap(row[1], row[2])


ROWS = {
    "load": do_load,
    "from": do_from,
    "to": do_to,
    "open": do_open,
    "fill": do_fill,
    "prim": do_prim,
    "make": do_make,
    "test": do_test,
    "push": do_push,
    "go": do_go,
    "back": do_back,
    "call": do_call,
    "known": do_known,
    "keep": do_keep,
    "wind": do_wind,
    "stop": do_stop,
}


def back_point(engine, frame):
    engine.window = list(frame[2:])
    engine.point = frame[1]


def back_began(engine, frame):
    """The BEFORE of a wind has ended."""
    _, place, before, body, after = frame
    engine.leave_window()
    engine.held = [body]
    wind = engine.make("wind", place, [before, after, engine.winds])
    if wind is None:
        return trap("memory", place)
    engine.winds = wind
    return call_upon(engine, ("inside", place), engine.held[0], place)


def back_inside(engine, frame):
    """The body of a wind has ended."""
    if engine.winds == ():
        return broken(engine)
    value = engine.value
    after = engine.part(engine.winds, 1)
    engine.winds = engine.part(engine.winds, 2)
    engine.leave_window()
    return call_upon(engine, ("ended", frame[1], value), after, frame[1])


def back_ended(engine, frame):
    engine.go_back(frame[2])


def back_leaving(engine, frame):
    engine.leave_window()
    engine.held = [frame[2], frame[3]]
    return go_on(engine, frame[1])


def back_entering(engine, frame):
    engine.winds = frame[4]
    return back_leaving(engine, frame)


FRAMES = {
    "point": back_point,
    "began": back_began,
    "inside": back_inside,
    "ended": back_ended,
    "leaving": back_leaving,
    "entering": back_entering,
}


def take_row(engine):
    """Does one step: the row at POINT with all that belongs to it."""
    row = BACK_ROW if engine.point == "back" else engine.rows[engine.point]
    doing = ROWS[row[0]]
    return doing(engine, row)


def take_rows(engine, steps):
    """Does at most so many steps: the ending, and how many were done."""
    for done in range(steps):
        ending = take_row(engine)
        if ending is not None:
            return ending, done + 1
    return OPEN, steps
