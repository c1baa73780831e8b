"""At which named points of a code a machine may be loaded with standings, and with what in its window."""

from keptrest.code import named_points
from keptrest.coursepairs import frame_head
from keptrest.frames import frame_values, linked
from keptrest.imageform import GOING_FRAMES, WIND_FRAMES
from keptrest.memory import control_values, reach_of
from keptrest.sameness import same_data


def head_of_map(chart):
    """What the CONTROLs that a map tells begin with."""
    return chart[:2] if chart[0] == "eval" else chart[:1]


def put_words(sources, values, window):
    """Puts values into the slots that are their sources; False if some source cannot have its value."""
    for source, value in zip(sources, values):
        wanted = window.setdefault(source, value) if type(source) is int else source[1]
        if not same_data(wanted, value):
            return False
    return len(sources) == len(values)


def newest_frames(link, many):
    """So many newest frames of a link, the oldest first, and the link below them; None if there are fewer."""
    frames = []
    for _ in range(many):
        if link is None:
            return None
        frames.append(link.frame)
        link = link.below
    return frames[::-1], link


class Loader:
    """Finds points for standings.

    points has those of each head of a CONTROL, returns the return point of each head of a frame, and covered what
    has been found of links.
    """

    def __init__(self, code):
        self.maps = code[1]
        self.covered = {}
        self.points = {}
        for point in named_points(code):
            self.points.setdefault(head_of_map(self.maps[point]), []).append(point)
        self.returns = {}
        for row in code[0]:
            if row[0] == "push":
                self.returns[self.maps[row[1]][1][0][:3]] = row[1]

    def is_covered(self, frame):
        """True for a frame that a machine's stack may have."""
        return frame[0] in WIND_FRAMES or frame[0] in GOING_FRAMES or frame_head(frame) in self.returns

    def covers(self, link):
        """True if a machine's stack may have all frames of a link; frames are looked at once alone."""
        row = []
        while link is not None and link not in self.covered:
            row.append(link)
            link = link.below
        holds = link is None or self.covered[link]
        for upper in row[::-1]:
            holds = holds and self.is_covered(upper.frame)
            self.covered[upper] = holds
        return holds

    def window_at(self, point, control, frames):
        """The dict of the words in the slots at a point; None if its map does not fit a CONTROL and newest frames."""
        chart = self.maps[point]
        window = {}
        if chart[0] == "eval" and not put_words(chart[2], control_values(control), window):
            return None
        for local, frame in zip(chart[-1], frames):
            if frame_head(frame) != local[:3] or not put_words(local[3], frame_values(frame), window):
                return None
        return window

    def spot_for(self, control, link):
        """(POINT, its window) for a CONTROL and a KONT; None if there is no such point."""
        for point in self.points.get(control[:-1], []):
            parted = newest_frames(link, len(self.maps[point][-1]))
            if parted is not None and self.covers(parted[1]):
                window = self.window_at(point, control, parted[0])
                if window is not None:
                    return (point, window)
        return None

    def spot_of_image(self, image):
        """(POINT, its window) for an image; None if there is no such point."""
        if not all([self.covers(linked(thing[1])) for thing in image[3] if thing[0] == "kept"]):
            return None
        return self.spot_for(image[0], linked(image[1]))

    def takes_course(self, course):
        """True if there is a point for the standing of a course."""
        if self.spot_for(course.control, course.link) is None:
            return False
        memory = course.memory
        for address in reach_of(memory, course.control, course.link, course.winds).found:
            if memory.store[address][0] == "kept" and not self.covers(memory.link_at(address)):
                return False
        return True

    def machine_frame(self, frame):
        """A frame as machines have it."""
        if frame_head(frame) in self.returns:
            return ("point", self.returns[frame_head(frame)], *frame_values(frame))
        return frame
