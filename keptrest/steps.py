"""The steps of the meaning. Each gives None, or the ending of the run."""

from keptrest.calls import boxed_pairs, call, go_on
from keptrest.placed import cut_to, with_pairs
from keptrest.prims import do_prim
from keptrest.progtext import value_text
from keptrest.terms import parts_of


def value_of(env, number):
    """The value of a number in an environment."""
    for other, value in env:
        if other == number:
            return value
    return None


def push_cut(course, kind, place, env):
    """Pushes a frame while child 0 of the term at a place is evaluated."""
    course.push((kind, place, cut_to(env, course.places.later(place, 0))))
    course.evaluate(place + (0,), env)


def eval_var(course, term, env):
    """Gives what a var means."""
    value = value_of(env, term[1])
    if term[1] in course.places.boxed:
        value = course.memory.store[value[1]][1]
    course.give(value)


def eval_step(course, place, env):
    """A step from ("eval", PLACE, ENV)."""
    term = course.places.term(place)
    kind = term[0]
    if kind == "const":
        course.give(term[1])
    elif kind == "var":
        eval_var(course, term, env)
    elif kind == "set":
        course.push(("set", place, value_of(env, term[1])))
        course.evaluate(place + (0,), env)
    elif kind in ("if", "let", "seq"):
        push_cut(course, kind, place, env)
    elif kind == "fn":
        return give_made(course, ("fn", place, env), place)
    elif parts_of(term) == ():
        return prim(course, term[1], (), place)
    else:
        push_argument(course, place, (), env)
    return None


def push_argument(course, place, done, env):
    """The next child of a call or a prim is evaluated, with those that are done kept."""
    kept = cut_to(env, course.places.later(place, len(done)))
    course.push(("args", place, done, kept))
    course.evaluate(place + (len(done),), env)


def give_made(course, thing, place):
    """Makes a thing and gives it."""
    value = course.make(thing, place)
    if value is None:
        return course.trap("memory", place)
    course.give(value)
    return None


def give_let(course, frame, value):
    """The value of a let's first part has come."""
    _, place, env = frame
    pairs = boxed_pairs(course, [(course.places.term(place)[1], value)], place)
    if pairs is None:
        return course.trap("memory", place)
    course.evaluate(place + (1,), with_pairs(env, pairs))
    return None


def give_if(course, frame, value):
    child = 2 if value is False else 1
    course.evaluate(frame[1] + (child,), frame[2])


def give_seq(course, frame, _):
    course.evaluate(frame[1] + (1,), frame[2])


def give_set(course, frame, value):
    course.memory.change(frame[2][1], ("box", value))
    course.give(())


def give_args(course, frame, value):
    """One more part of a call or a prim has come."""
    _, place, done, env = frame
    ready = (*done, value)
    term = course.places.term(place)
    if len(ready) < len(parts_of(term)):
        push_argument(course, place, ready, env)
        return None
    if term[0] == "call":
        return call(course, ready[0], ready[1:], place)
    return prim(course, term[1], ready, place)


def give_began(course, frame, _):
    """The BEFORE of a wind has ended."""
    _, place, before, body, after = frame
    wind = course.make(("wind", place, before, after, course.winds), place)
    if wind is None:
        return course.trap("memory", place)
    course.come(wind)
    course.push(("inside", place))
    return call(course, body, (), place)


def give_inside(course, frame, value):
    """The body of a wind has ended."""
    after = course.memory.store[course.winds[1]][3]
    course.go()
    course.push(("ended", frame[1], value))
    return call(course, after, (), frame[1])


def give_ended(course, frame, _):
    course.give(frame[2])


def give_leaving(course, frame, _):
    return go_on(course, frame[2], frame[3], frame[1])


def give_entering(course, frame, _):
    course.come(frame[4])
    return go_on(course, frame[2], frame[3], frame[1])


def give_mark(course, _, value):
    """A prompt has ended."""
    course.give(value)


GIVINGS = {
    "if": give_if,
    "let": give_let,
    "seq": give_seq,
    "set": give_set,
    "args": give_args,
    "began": give_began,
    "inside": give_inside,
    "ended": give_ended,
    "leaving": give_leaving,
    "entering": give_entering,
    "mark": give_mark,
}


def prim_keep(course, values, place):
    kept = course.make_kept(place)
    if kept is None:
        return course.trap("memory", place)
    return call(course, values[0], (kept,), place)


def prim_wind(course, values, place):
    course.push(("began", place, *values))
    return call(course, values[0], (), place)


def prim_show(course, values, _):
    course.output.append(value_text(course.memory.store, values[0]))
    course.give(())


def prim_ask(course, _, place):
    if course.inputs == ():
        return course.trap("input", place)
    course.give(course.inputs[0])
    course.inputs = course.inputs[1:]
    return None


def prim_more(course, _, place):
    course.give(course.inputs != ())


def prim_prompt(course, values, place):
    course.push(("mark", place))
    return call(course, values[0], (), place)


def prim_take(course, values, place):
    """The frames above the newest mark become a part, that is handed to the function; the mark stays."""
    frames = []
    while course.link.frame[0] != "mark":
        frames.append(course.take_frame())
    part = course.make(("part", tuple(frames[::-1])), place)
    return call(course, values[0], (part,), place)


OWN_PRIMS = {
    "keep": prim_keep,
    "wind": prim_wind,
    "show": prim_show,
    "ask": prim_ask,
    "more": prim_more,
    "prompt": prim_prompt,
    "take": prim_take,
}


def prim(course, name, values, place):
    """Does a prim with its values at a place."""
    if name in OWN_PRIMS:
        doing = OWN_PRIMS[name]
        return doing(course, values, place)
    told = do_prim(name, values, course.memory.store)
    if told[0] == "trap":
        return course.trap(told[1], place)
    if told[0] == "make":
        return give_made(course, told[1], place)
    if told[0] == "put":
        course.memory.change(told[1], told[2])
        course.give(())
        return None
    course.give(told[1])
    return None


def give_step(course, value):
    """A step from ("give", VALUE)."""
    if course.link is None:
        return ("end", value_text(course.memory.store, value))
    frame = course.take_frame()
    giving = GIVINGS[frame[0]]
    return giving(course, frame, value)


def take_step(course):
    """One step of the run: None, or its ending, and then the turns of winds in it do not show."""
    course.begin_step()
    many = len(course.turns)
    control = course.control
    if control[0] == "eval":
        ending = eval_step(course, control[1], control[2])
    else:
        ending = give_step(course, control[1])
    if ending is not None:
        del course.turns[many:]
    return ending


def take_steps(course, steps):
    """Does at most so many steps: the ending, ("open",) if there is none yet, and how many were done."""
    for done in range(steps):
        ending = take_step(course)
        if ending is not None:
            return ending, done + 1
    return ("open",), steps
