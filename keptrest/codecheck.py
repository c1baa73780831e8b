"""The first fault of a code: its entries, the walks from its named points, and rings of idle leads."""

from keptrest.codemaps import entry_of
from keptrest.quiet import behind_event, event_at, is_end, way_from
from keptrest.rings import nodes_on_rings
from keptrest.rowside import RowSide
from keptrest.signs import written
from keptrest.spots import Spots


def told_word(source, window):
    """The word that a source stands for; None if its slot holds nothing."""
    if type(source) is int:
        return window[source] if source < len(window) else None
    return written(source[1])


def told_words(sources, window):
    return tuple([told_word(source, window) for source in sources])


def pushed_frames(side):
    """The frames that the pushed ones tell."""
    frames = []
    for point, words in side.pushed:
        kind, place, done, _ = side.maps[point][1][0]
        frames.append((kind, side.spots.at[place], done, words))
    return frames


def standing_at(side):
    """The standing that is told where a side has come to a named point; words of nothing are None."""
    chart = side.maps[side.point]
    frames = pushed_frames(side)
    for kind, place, done, sources in chart[-1]:
        frames.append((kind, side.spots.at[place], done, told_words(sources, side.window)))
    if chart[0] == "eval":
        return (("eval", side.spots.at[chart[1]], told_words(chart[2], side.window)), tuple(frames))
    return (("give", side.value), tuple(frames))


def event_fault(told, wanted):
    """How an event or an end differs from the meaning's one, frames not looked at; None if it does not."""
    head, words, roots = wanted
    if told[1] != head or len(told[2]) != len(words):
        return "event"
    if told[2] != words:
        return "words"
    return "roots" if roots is not None and told[3] != roots else None


def frames_differ(side, standing, head):
    """True if the pushed frames are not those of the meaning at an end where they count."""
    if head[0] == "stop":
        return False
    frames = standing[1] if head[0] == "back" else standing[1][:-1]
    return tuple(pushed_frames(side)) != frames


class Walks:
    """The walks of a code. leads has the pairs (k, t) of all idle leads that have been come to."""

    def __init__(self, program, code):
        self.code = code
        self.spots = Spots(program)
        self.sure = self.spots.sure_fns()
        self.leads = []

    def walk_fault(self, point):
        """The fault of the walk from a named point; None if it is right."""
        side = RowSide(self.spots, self.code, point)
        side.begin(self.sure)
        waiting = [(side, way_from(standing_at(side), self.spots), True)]
        while waiting:
            side, way, is_idle = waiting.pop()
            fault = self.side_fault(side, way, waiting, point if is_idle else None)
            if fault is not None:
                return fault
        return None

    def side_fault(self, side, way, waiting, start):
        """The fault of one side; start is the point of the walk if there was no event in it yet."""
        while True:
            told = side.advance()
            if told == ("empty",):
                return "empty"
            if told == ("named",):
                return self.named_fault(side, way, start)
            fault = event_fault(told, event_at(way[-1], side.sure))
            if fault is None and is_end(told[1]) and frames_differ(side, way[-1], told[1]):
                fault = "frames"
            if fault is not None or is_end(told[1]):
                return fault
            way = self.behind(side, told[1], way[-1], waiting)
            start = None

    def behind(self, side, head, standing, waiting):
        """The quiet way behind an event, with the rows' side gone on; the False side of a test waits."""
        answer = True
        if head == ("test",):
            other = side.copied()
            other.choose(False)
            waiting.append((other, way_from(behind_event(standing, False), self.spots), False))
            side.choose(True)
        elif head == ("fill",):
            side.fill_done()
        else:
            answer = side.answer(head)
        return way_from(behind_event(standing, answer), self.spots)

    def named_fault(self, side, way, start):
        """The fault of a side that has come to a named point."""
        standing = standing_at(side)
        if standing not in way:
            return "map"
        if start is not None and way[0] == standing:
            self.leads.append((start, side.point))
        return None


def code_fault(program, code):
    """The first fault of a code of the form for a program; None if there is none."""
    walks = Walks(program, code)
    for spot, entry in zip(walks.spots.all_fns(), code[2]):
        if entry[:5] != entry_of(spot, walks.spots):
            return ("entry", spot.place)
    for point, chart in enumerate(code[1]):
        if chart is not None:
            fault = walks.walk_fault(point)
            if fault is not None:
                return ("point", point, fault)
    turning = nodes_on_rings(walks.leads)
    return ("point", min(turning), "turn") if turning else None
