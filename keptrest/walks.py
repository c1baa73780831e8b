"""Walks from named points: the standings of the meaning's side, and the sides of the rows."""

from keptrest.errors import EmptyRead
from keptrest.quiet import behind_event, event_at, is_end, way_from
from keptrest.rowside import RowSide
from keptrest.signs import plain_word, plain_words, told_event, written
from keptrest.spots import Spots


def written_words(words):
    return tuple([written(word) for word in words])


def inner_standing(standing, spots):
    """A symbolic standing as walks have it."""
    control, frames = standing
    inner = tuple([(kind, spots.at[place], done, written_words(words)) for kind, place, done, words in frames])
    if control[0] == "eval":
        return (("eval", spots.at[control[1]], written_words(control[2])), inner)
    return (("give", written(control[1])), inner)


def outer_standing(standing):
    """A symbolic standing as it is told outside of walks."""
    control, frames = standing
    outer = tuple([(kind, spot.place, done, plain_words(words)) for kind, spot, done, words in frames])
    if control[0] == "eval":
        return (("eval", control[1].place, plain_words(control[2])), outer)
    return (("give", plain_word(control[1])), outer)


def word_of(source):
    """The symbolic word of a source at its own named point."""
    return ("slot", source) if type(source) is int else source[1]


def words_of(sources):
    return tuple([word_of(source) for source in sources])


def standing_of(code, point):
    """The symbolic standing of a named point."""
    chart = code[1][point]
    frames = tuple([(kind, place, done, words_of(sources)) for kind, place, done, sources in chart[-1]])
    if chart[0] == "eval":
        return (("eval", chart[1], words_of(chart[2])), frames)
    return (("give", ("value",)), frames)


def quiet_way(program, standing):
    """The quiet way of a symbolic standing."""
    spots = Spots(program)
    return tuple([outer_standing(other) for other in way_from(inner_standing(standing, spots), spots)])


def event_of(program, standing, sure):
    """The event or the end of the last standing of a quiet way; sure are pairs (SIGN, q)."""
    spots = Spots(program)
    last = way_from(inner_standing(standing, spots), spots)[-1]
    head, words, roots = event_at(last, {sign: spots.at[place] for sign, place in sure})
    return told_event(head, words, roots)


def after_event(program, standing, answer):
    """The symbolic standing behind the event of the last standing of a quiet way."""
    spots = Spots(program)
    last = way_from(inner_standing(standing, spots), spots)[-1]
    return outer_standing(behind_event(last, answer))


def plain_pushed(pushed):
    """The frames that have been pushed, as they are told outside of walks."""
    return tuple([(point, plain_words(words)) for point, words in pushed])


def named_end(side):
    """The last item of a side that has come to a named point."""
    window = tuple([plain_word(word) for word in side.window])
    return ("named", side.point, plain_word(side.value), window, plain_pushed(side.pushed))


def side_told(side, events, waiting):
    """Goes along a side and gives its items; where it parts, the False side is put behind those that wait."""
    while True:
        told = side.advance()
        if told == ("empty",):
            raise EmptyRead(side.point)
        if told == ("named",):
            return (*events, named_end(side))
        if is_end(told[1]):
            return (*events, ("end", told_event(told[1], told[2], None), plain_pushed(side.pushed)))
        event = told_event(told[1], told[2], told[3])
        if told[1] == ("test",):
            other = side.copied()
            other.choose(False)
            waiting.append((other, [*events, (*event, False)]))
            side.choose(True)
            event = (*event, True)
        elif told[1] == ("fill",):
            side.fill_done()
        else:
            side.answer(told[1])
        events.append(event)


def rows_way(program, code, point):
    """The sides of the rows' side of the walk from a named point."""
    spots = Spots(program)
    first = RowSide(spots, code, point)
    first.begin(spots.sure_fns())
    waiting = [(first, [])]
    sides = []
    while waiting:
        side, events = waiting.pop()
        sides.append(side_told(side, events, waiting))
    return tuple(sides)
