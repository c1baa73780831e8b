"""Calls, and going on to kept continuations. Each gives None, or the ending of the run."""

from keptrest.placed import with_pairs


def call(course, callee, values, place):
    """Calls a value with values at a place."""
    kind = ""
    if type(callee) is tuple and callee != () and callee[0] == "thing":
        kind = course.memory.store[callee[1]][0]
    if kind == "fn":
        return call_function(course, course.memory.store[callee[1]], values, place)
    if kind not in ("kept", "part"):
        return course.trap("no function", place)
    if len(values) != 1:
        return course.trap("count", place)
    if kind == "part":
        put_back(course, course.memory.store[callee[1]], values[0], place)
        return None
    course.link = None
    return go_on(course, callee, values[0], place)


def put_back(course, part, value, place):
    """Pushes a mark and the frames of a part upon it, and gives a value to the newest one."""
    course.push(("mark", place))
    for frame in part[1]:
        course.push(frame)
    course.give(value)


def has_count(term, many):
    """True if a fn takes so many values."""
    return many == len(term[1]) or (term[2] is not None and many > len(term[1]))


def call_function(course, thing, values, place):
    """Calls a function of the program."""
    term = course.places.term(thing[1])
    if not has_count(term, len(values)):
        return course.trap("count", place)
    if course.is_deep(place):
        return course.trap("deep", place)
    many = len(term[1])
    pairs = list(zip(term[1], values[:many]))
    if term[2] is not None:
        rest = made_list(course, values[many:], place)
        if rest is None:
            return course.trap("memory", place)
        pairs.append((term[2], rest))
    bound = boxed_pairs(course, pairs, place)
    if bound is None:
        return course.trap("memory", place)
    course.evaluate(thing[1] + (0,), with_pairs(thing[2], bound))
    return None


def made_list(course, values, place):
    """A list of values that is made at a place, the last pair first; None if there is no room."""
    rest = ()
    for value in values[::-1]:
        rest = course.make(("pair", value, rest), place)
        if rest is None:
            return None
    return rest


def boxed_pairs(course, pairs, place):
    """The pairs of an environment, boxed numbers with boxes made at a place; None if there is no room."""
    bound = []
    for number, value in pairs:
        if number in course.places.boxed:
            value = course.make(("box", value), place)
            if value is None:
                return None
        bound.append((number, value))
    return bound


def next_wind(course, winds):
    """The end of some winds whose REST is the winds of the run; None if these are no end of them."""
    store = course.memory.store
    while winds != ():
        rest = store[winds[1]][4]
        if rest == course.winds:
            return winds
        winds = rest
    return None


def go_on(course, kept, value, place):
    """The run goes on to a kept thing with a value at a place."""
    target = course.memory.store[kept[1]][2]
    if course.winds == target:
        course.link = course.memory.link_at(kept[1])
        course.give(value)
        return None
    wind = next_wind(course, target)
    if wind is None:
        thing = course.memory.store[course.winds[1]]
        course.go()
        course.push(("leaving", place, kept, value))
        return call(course, thing[3], (), thing[1])
    thing = course.memory.store[wind[1]]
    course.push(("entering", place, kept, value, wind))
    return call(course, thing[2], (), thing[1])
