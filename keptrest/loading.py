"""At which named points of a code a machine may be loaded with standings, and with what in its window."""

from keptrest.code import named_points
from keptrest.coursepairs import frame_head
from keptrest.frames import frame_values, unlinked
from keptrest.imageform import GOING_FRAMES, WIND_FRAMES
from keptrest.memory import control_values, reach_of
from keptrest.sameness import same_data


def head_of_map(chart):
    """What the CONTROLs that a map tells begin with."""
    return chart[:2] if chart[0] == "eval" else chart[:1]


def put_words(sources, values, window):
    """Puts values into the slots that are their sources; False if some source cannot have its value."""
    for source, value in zip(sources, values):
        wanted = window.setdefault(source, value) if type(source) is int else source[1]
        if not same_data(wanted, value):
            return False
    return len(sources) == len(values)


class Loader:
    """Finds points for standings. returns leads the heads of frames to their return points."""

    def __init__(self, code):
        self.maps = code[1]
        self.points = {}
        for point in named_points(code):
            self.points.setdefault(head_of_map(self.maps[point]), []).append(point)
        self.returns = {}
        for row in code[0]:
            if row[0] == "push":
                self.returns[self.maps[row[1]][1][0][:3]] = row[1]

    def is_covered(self, frame):
        """True for a frame that a machine's stack may have."""
        return frame[0] in WIND_FRAMES or frame[0] in GOING_FRAMES or frame_head(frame) in self.returns

    def covers(self, kont):
        return all([self.is_covered(frame) for frame in kont])

    def window_at(self, point, control, kont):
        """The dict of the words in the slots at a point; None if its map does not fit a CONTROL and a KONT."""
        chart = self.maps[point]
        window = {}
        if chart[0] == "eval" and not put_words(chart[2], control_values(control), window):
            return None
        for local, frame in zip(chart[-1], kont[len(kont) - len(chart[-1]):]):
            if frame_head(frame) != local[:3] or not put_words(local[3], frame_values(frame), window):
                return None
        return window

    def spot_for(self, control, kont):
        """(POINT, its window) for a CONTROL and a KONT; None if there is no such point."""
        points = self.points.get(control[:-1], [])
        covered = 0
        while points and covered < len(kont) and self.is_covered(kont[covered]):
            covered += 1
        for point in points:
            many = len(self.maps[point][-1])
            if many <= len(kont) <= covered + many:
                window = self.window_at(point, control, kont)
                if window is not None:
                    return (point, window)
        return None

    def spot_of_image(self, image):
        """(POINT, its window) for an image; None if there is no such point."""
        if not all([self.covers(thing[1]) for thing in image[3] if thing[0] == "kept"]):
            return None
        return self.spot_for(image[0], image[1])

    def takes_course(self, course):
        """True if there is a point for the standing of a course."""
        if course.control[:-1] not in self.points or self.spot_for(course.control, unlinked(course.link)) is None:
            return False
        memory = course.memory
        for address in reach_of(memory, course.control, course.link, course.winds).found:
            if memory.store[address][0] == "kept" and not self.covers(unlinked(memory.link_at(address))):
                return False
        return True

    def machine_frame(self, frame):
        """A frame as machines have it."""
        if frame_head(frame) in self.returns:
            return ("point", self.returns[frame_head(frame)], *frame_values(frame))
        return frame
