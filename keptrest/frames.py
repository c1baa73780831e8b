"""Values and words of things and frames, those of machines too.

A machine's frame is (WORD, POINT or PLACE, its words ..). In the store of a linked machine there are the things
("frame", (WORD, POINT or PLACE), its words .., NEXT) and ("caught", WINDS, LINK) for what is kept.
"""

PLACED_THINGS = ("wind", "frame")


def thing_values(thing):
    """The values in a thing that is no kept one."""
    if thing[0] == "fn":
        return tuple([value for _, value in thing[2]])
    return thing[2:] if thing[0] in PLACED_THINGS else thing[1:]


def words_of_thing(thing):
    """The words of a thing that is no kept one."""
    return 1 + len(thing[2]) if thing[0] == "fn" else len(thing_values(thing))


def frame_values(frame):
    """The values in a frame, in the order in which they stand in it."""
    kind = frame[0]
    if kind in ("if", "let", "seq"):
        return tuple([value for _, value in frame[2]])
    if kind == "args":
        return (*frame[2], *[value for _, value in frame[3]])
    return frame[2:]


def words_of_frame(frame):
    """1 and the number of the values in a frame."""
    kind = frame[0]
    if kind in ("if", "let", "seq"):
        return 1 + len(frame[2])
    if kind == "args":
        return 1 + len(frame[2]) + len(frame[3])
    return len(frame) - 1


class Link:
    """A frame upon the frames below it (None for none), with the words of all of them."""

    def __init__(self, frame, below):
        self.frame = frame
        self.below = below
        self.words = words_of_frame(frame) + words_of_link(below)


def words_of_link(link):
    """The words of all frames of a link."""
    return 0 if link is None else link.words


def linked(kont):
    """The link of a KONT."""
    link = None
    for frame in kont:
        link = Link(frame, link)
    return link


def unlinked(link):
    """The KONT of a link."""
    frames = []
    while link is not None:
        frames.append(link.frame)
        link = link.below
    return tuple(frames[::-1])
