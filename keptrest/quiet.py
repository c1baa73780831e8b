"""The meaning's side of walks: quiet steps, events and ends of symbolic standings."""

from keptrest.moves import after_let, after_seq, after_test, entered, is_last, next_argument
from keptrest.signs import NO, constant_told, head_of_call, is_sign, signs_in, written


def eval_quiet(control, frames, spots):
    """The standing behind a quiet step from "eval"; None if the step is not quiet."""
    _, spot, words = control
    kind = spot.kind
    if kind == "const":
        return (("give", written(spot.node[1])), frames)
    if kind == "var":
        return None if spots.is_boxed(spot.node[1]) else (("give", words[0]), frames)
    if kind == "fn" or not spot.below:
        return None
    frame, ahead = entered(spot, words)
    return (("eval", *ahead), (*frames, frame))


def give_argument(frame, word, frames):
    """The standing behind a quiet step into a frame "args", frames being those below it; None if it is not quiet."""
    if not is_last(frame):
        frame, ahead = next_argument(frame, word)
        return (("eval", *ahead), (*frames, frame))
    spot = frame[1]
    if spot.kind == "call":
        return None
    told = constant_told(spot.node[1], (*frame[3], word))
    return (("give", told[1]), frames) if told is not None and told[0] == "give" else None


def give_quiet(word, frames, spots):
    """The standing behind a quiet step from "give"; None if the step is not quiet."""
    if not frames:
        return None
    frame = frames[-1]
    below = frames[:-1]
    kind = frame[0]
    if kind == "args":
        return give_argument(frame, word, below)
    if kind == "seq":
        return (("eval", *after_seq(frame)), below)
    if kind == "let" and not spots.is_boxed(frame[1].node[1]):
        return (("eval", *after_let(frame, word)), below)
    if kind == "if" and not is_sign(word):
        return (("eval", *after_test(frame, 2 if word == NO else 1)), below)
    return None


def quiet_step(standing, spots):
    """The standing behind a quiet step; None if the step is not quiet."""
    control, frames = standing
    if control[0] == "eval":
        return eval_quiet(control, frames, spots)
    return give_quiet(control[1], frames, spots)


def way_from(standing, spots):
    """The quiet way of a standing, as a list."""
    way = []
    while standing is not None:
        way.append(standing)
        standing = quiet_step(standing, spots)
    return way


def roots_of(standing):
    """The ascending tuple of the signs in a standing."""
    control, frames = standing
    words = list(control[2]) if control[0] == "eval" else [control[1]]
    for frame in frames:
        words.extend(frame[3])
    return signs_in(words)


def done_event(standing, sure):
    """The event or the end of a standing that gives the last value into a frame "args"."""
    control, frames = standing
    spot = frames[-1][1]
    words = (*frames[-1][3], control[1])
    if spot.kind == "call":
        head, words = head_of_call(spot.place, words, sure)
        return head, words, None
    name = spot.node[1]
    if name in ("keep", "wind"):
        return (name, spot.place), words, None
    if name == "give up":
        return ("stop", "given up", spot.place), (), None
    if name == "pair":
        return ("make", ("pair",), spot.place), words, roots_of(standing)
    told = constant_told(name, words)
    if told is not None:
        return ("stop", told[1], spot.place), (), None
    return ("prim", name, spot.place), words, None


def eval_event(standing):
    """The event of a standing with "eval" whose step is not quiet."""
    _, spot, words = standing[0]
    if spot.kind == "var":
        return ("open",), words, None
    if spot.kind == "fn":
        return ("make", ("fn",), spot.place), words, roots_of(standing)
    return ("prim", spot.node[1], spot.place), (), None


def event_at(standing, sure):
    """(HEAD, WORDS, ROOTS) of a standing whose step is not quiet; ROOTS is None where nothing is made."""
    control, frames = standing
    if control[0] == "eval":
        return eval_event(standing)
    if not frames:
        return ("back",), (control[1],), None
    kind, spot, _, words = frames[-1]
    if kind == "set":
        return ("fill",), (words[0], control[1]), None
    if kind == "let":
        return ("make", ("box",), spot.place), (control[1],), roots_of(standing)
    if kind == "if":
        return ("test",), (control[1],), None
    return done_event(standing, sure)


def behind_event(standing, answer):
    """The standing behind the event of a standing: answer is a sign, None for "fill", True or False for "test"."""
    control, frames = standing
    if control[0] == "eval":
        return (("give", answer), frames)
    frame = frames[-1]
    below = frames[:-1]
    if frame[0] == "set":
        return (("give", ()), below)
    if frame[0] == "let":
        return (("eval", *after_let(frame, answer)), below)
    if frame[0] == "if":
        return (("eval", *after_test(frame, 1 if answer else 2)), below)
    return (("give", answer), below)


def is_end(head):
    """True for the head of an end, False for that of an event."""
    return head[0] in ("call", "known", "keep", "wind", "stop", "back")
