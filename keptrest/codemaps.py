"""The maps and entries of codes: their form for a program, and the entries that its fns must have."""

from keptrest.coderows import is_point, is_slot
from keptrest.datatext import is_constant_datum
from keptrest.moves import frame_kind, frame_size, later_numbers
from keptrest.sameness import is_integer
from keptrest.spots import free_numbers_of

FRAME_KINDS = ("if", "let", "seq", "set", "args")


def is_path(value):
    """True for a tuple of integers from 0 on."""
    return type(value) is tuple and all([is_integer(number) and number >= 0 for number in value])


def is_place_of(value, spots):
    """True for a place of a program."""
    return is_path(value) and value in spots.at


def is_source(value):
    """True for a slot, and for a constant as a source."""
    if is_slot(value):
        return True
    return type(value) is tuple and len(value) == 2 and value[0] == "const" and is_constant_datum(value[1])


def are_sources(values, numbers, spots):
    """True for one source for each number, those of boxes being slots."""
    if len(values) != len(numbers):
        return False
    for value, number in zip(values, numbers):
        if not is_source(value) or (spots.is_boxed(number) and not is_slot(value)):
            return False
    return True


def is_local_frame(frame, spots):
    """True for a local frame whose term fits its kind, with as many sources as are wanted."""
    if type(frame) is not tuple or len(frame) != 4 or type(frame[0]) is not str or frame[0] not in FRAME_KINDS:
        return False
    kind, place, done, sources = frame
    if not is_place_of(place, spots) or not is_integer(done) or type(sources) is not tuple:
        return False
    spot = spots.at[place]
    if frame_kind(spot) != kind or not 0 <= done < (len(spot.below) if kind == "args" else 1):
        return False
    if kind == "set":
        return len(sources) == 1 and is_slot(sources[0])
    if len(sources) != frame_size(spot, kind, done):
        return False
    ready = all([is_source(source) for source in sources[:done]])
    return ready and are_sources(sources[done:], later_numbers(spot, done), spots)


def are_frames(frames, spots):
    """True for a tuple of local frames."""
    return type(frames) is tuple and all([is_local_frame(frame, spots) for frame in frames])


def is_map(chart, spots):
    """True for a map of a point."""
    if type(chart) is not tuple or len(chart) == 0:
        return False
    if chart[0] == "give":
        return len(chart) == 2 and are_frames(chart[1], spots)
    if chart[0] != "eval" or len(chart) != 4:
        return False
    _, place, sources, frames = chart
    if not is_place_of(place, spots) or type(sources) is not tuple:
        return False
    return are_sources(sources, free_numbers_of(spots.at[place]), spots) and are_frames(frames, spots)


def sources_of(chart):
    """All sources that a map names."""
    found = list(chart[2]) if chart[0] == "eval" else []
    for frame in chart[-1]:
        found.extend(frame[3])
    return found


def count_window(chart):
    """The window size of a point with this map."""
    return max([source + 1 for source in sources_of(chart) if type(source) is int], default=0)


def are_truths(value, many):
    """True for a tuple of so many truths."""
    return type(value) is tuple and len(value) == many and all([type(one) is bool for one in value])


def is_pick(value, own, handed):
    """True for an entry of PICKS, with so many captured and so many handed words."""
    if type(value) is not tuple or len(value) != 2 or not is_integer(value[1]) or value[1] < 0:
        return False
    return (value[0] == "own" and value[1] < own) or (value[0] == "handed" and value[1] < handed)


def has_counts(entry, many):
    """True if an entry has six parts, of which k, REST, BOXED and POINT are right for so many rows."""
    if type(entry) is not tuple or len(entry) != 6:
        return False
    _, params, rest, boxed, picks, point = entry
    if not is_integer(params) or params < 0 or type(rest) is not bool or type(picks) is not tuple:
        return False
    return are_truths(boxed, params + 1) and (rest or not boxed[-1]) and is_point(point, many)


def entry_has_form(entry, spot, maps):
    """True for an entry of the fn at a node; whether it is the fn's own one is not looked at."""
    if not has_counts(entry, len(maps)):
        return False
    place, params, rest, _, picks, point = entry
    if not is_path(place) or place != spot.place:
        return False
    body = spot.below[0]
    wanted = free_numbers_of(body)
    own = len(free_numbers_of(spot))
    if len(picks) != len(wanted) or not all([is_pick(pick, own, params + (1 if rest else 0)) for pick in picks]):
        return False
    return maps[point] == ("eval", body.place, tuple(range(len(wanted))), ())


def pick_of(number, params, own):
    """Where a number of a fn's body comes from: params has its parameters and rest, own its captured numbers."""
    if number in params:
        return ("handed", params.index(number))
    return ("own", own.index(number))


def entry_of(spot, spots):
    """The entry of the fn at a node, but for its POINT: (q, k, REST, BOXED, PICKS)."""
    _, params, rest, _ = spot.node
    names = params if rest is None else (*params, rest)
    boxed = [spots.is_boxed(number) for number in names]
    if rest is None:
        boxed.append(False)
    own = free_numbers_of(spot)
    picks = [pick_of(number, names, own) for number in free_numbers_of(spot.below[0])]
    return (spot.place, len(params), rest is not None, tuple(boxed), tuple(picks))
