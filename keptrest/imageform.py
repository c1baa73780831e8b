"""Sound images: their form, and what they must have to be those of a program: places, names, kinds and winds."""

from keptrest.codemaps import is_path
from keptrest.datatext import is_constant_datum
from keptrest.kinds import is_thing
from keptrest.moves import frame_kind, later_numbers
from keptrest.numbering import image_and_order
from keptrest.sameness import is_integer
from keptrest.spots import free_numbers_of

FRAME_VALUES = {"set": 1, "began": 3, "inside": 0, "ended": 1, "leaving": 2, "entering": 3}
NAMED_FRAMES = ("if", "let", "seq")
WIND_FRAMES = ("began", "inside", "ended")
GOING_FRAMES = ("leaving", "entering")


def is_image_value(value, many):
    """True for a constant, or for ("thing", k) with k below a number."""
    if is_constant_datum(value):
        return True
    if type(value) is not tuple or len(value) != 2 or value[0] != "thing":
        return False
    return is_integer(value[1]) and 0 <= value[1] < many


def are_image_values(values, many):
    return type(values) is tuple and all([is_image_value(value, many) for value in values])


def is_env_pair(pair, many):
    if type(pair) is not tuple or len(pair) != 2:
        return False
    return is_integer(pair[0]) and pair[0] >= 0 and is_image_value(pair[1], many)


def is_env(env, many):
    return type(env) is tuple and all([is_env_pair(pair, many) for pair in env])


def is_part(value):
    """True for a tuple that has a word in front and a path behind it."""
    return type(value) is tuple and len(value) >= 2 and type(value[0]) is str and is_path(value[1])


def is_image_control(control, many):
    if type(control) is tuple and len(control) == 2 and control[0] == "give":
        return is_image_value(control[1], many)
    return is_part(control) and len(control) == 3 and control[0] == "eval" and is_env(control[2], many)


def is_image_frame(frame, many):
    if not is_part(frame):
        return False
    kind = frame[0]
    if kind in NAMED_FRAMES:
        return len(frame) == 3 and is_env(frame[2], many)
    if kind == "args":
        return len(frame) == 4 and are_image_values(frame[2], many) and is_env(frame[3], many)
    return FRAME_VALUES.get(kind) == len(frame) - 2 and are_image_values(frame[2:], many)


def is_image_kont(kont, many):
    return type(kont) is tuple and all([is_image_frame(frame, many) for frame in kont])


def is_image_thing(thing, many):
    if type(thing) is not tuple or len(thing) == 0:
        return False
    kind = thing[0]
    if kind in ("pair", "box"):
        return len(thing) == (3 if kind == "pair" else 2) and are_image_values(thing[1:], many)
    if kind == "kept":
        return len(thing) == 3 and is_image_kont(thing[1], many) and is_image_value(thing[2], many)
    if kind == "fn":
        return len(thing) == 3 and is_path(thing[1]) and is_env(thing[2], many)
    return kind == "wind" and len(thing) == 5 and is_path(thing[1]) and are_image_values(thing[2:], many)


def has_image_form(value):
    """True for a tuple as images are, each of whose things has its own number."""
    if type(value) is not tuple or len(value) != 5 or type(value[3]) is not tuple:
        return False
    control, kont, winds, things, inputs = value
    many = len(things)
    if not is_image_control(control, many) or not is_image_kont(kont, many) or not is_image_value(winds, many):
        return False
    if not all([is_image_thing(thing, many) for thing in things]) or not are_image_values(inputs, many):
        return False
    return image_and_order((*value, ()))[1] == list(range(many))


def konts_of(image):
    """All KONTs of an image, each with its WINDS."""
    found = [(image[1], image[2])]
    for thing in image[3]:
        if thing[0] == "kept":
            found.append(thing[1:])
    return found


def is_prim_at(spots, place, name):
    """True if a prim of this name stands at a place."""
    return place in spots.at and spots.at[place].node[:2] == ("prim", name)


def frame_has_place(spots, frame):
    """True if the term at the place of a frame fits its kind."""
    kind, place = frame[:2]
    if kind in WIND_FRAMES:
        return is_prim_at(spots, place, "wind")
    if place not in spots.at:
        return False
    spot = spots.at[place]
    if kind in GOING_FRAMES:
        return spot.kind == "call" or is_prim_at(spots, place, "keep")
    return frame_kind(spot) == kind and len(spot.below) > 0


def kont_has_places(spots, kont):
    """True if all frames of a KONT have right places, and none goes on but the oldest one."""
    if any([frame[0] in GOING_FRAMES for frame in kont[1:]]):
        return False
    return all([frame_has_place(spots, frame) for frame in kont])


def thing_has_place(spots, thing):
    if thing[0] == "fn":
        return thing[1] in spots.at and spots.at[thing[1]].kind == "fn"
    return thing[0] != "wind" or is_prim_at(spots, thing[1], "wind")


def places_are_right(spots, image):
    """True if the places of an image are those of fitting terms of the program."""
    if image[0][0] == "eval" and image[0][1] not in spots.at:
        return False
    if not all([kont_has_places(spots, kont) for kont, _ in konts_of(image)]):
        return False
    return all([thing_has_place(spots, thing) for thing in image[3]])


def numbers_in(env):
    return tuple([number for number, _ in env])


def frame_has_names(spots, frame):
    """True if the ENV of a frame, if it has one, has just the numbers that the frame keeps."""
    kind, place = frame[:2]
    if kind == "args":
        done = len(frame[2])
        spot = spots.at[place]
        return done < len(spot.below) and numbers_in(frame[3]) == later_numbers(spot, done)
    return kind not in NAMED_FRAMES or numbers_in(frame[2]) == later_numbers(spots.at[place], 0)


def has_free_names(spots, place, env):
    return numbers_in(env) == free_numbers_of(spots.at[place])


def names_are_right(spots, image):
    """True if each ENV and CAPTURED of an image has just its numbers."""
    if image[0][0] == "eval" and not has_free_names(spots, image[0][1], image[0][2]):
        return False
    for kont, _ in konts_of(image):
        if not all([frame_has_names(spots, frame) for frame in kont]):
            return False
    return all([has_free_names(spots, thing[1], thing[2]) for thing in image[3] if thing[0] == "fn"])


class Kinds:
    """Looks at the kinds of the things of an image."""

    def __init__(self, spots, image):
        self.spots = spots
        self.image = image

    def thing_kind(self, value):
        """The word of the thing of a value; empty for constants."""
        return self.image[3][value[1]][0] if is_thing(value) else ""

    def is_winds(self, value):
        return value == () or self.thing_kind(value) == "wind"

    def is_plain(self, value):
        """True for a value that is no box and no wind."""
        return self.thing_kind(value) not in ("box", "wind")

    def all_plain(self, values):
        return all([self.is_plain(value) for value in values])

    def is_env(self, env):
        """True if just the boxed numbers of an ENV have boxes, and none has a wind."""
        for number, value in env:
            if self.spots.is_boxed(number):
                if self.thing_kind(value) != "box":
                    return False
            elif not self.is_plain(value):
                return False
        return True

    def is_frame(self, frame):
        kind = frame[0]
        if kind in NAMED_FRAMES:
            return self.is_env(frame[2])
        if kind == "args":
            return self.all_plain(frame[2]) and self.is_env(frame[3])
        if kind == "set":
            return self.thing_kind(frame[2]) == "box"
        if kind not in GOING_FRAMES:
            return self.all_plain(frame[2:])
        if self.thing_kind(frame[2]) != "kept" or not self.is_plain(frame[3]):
            return False
        return kind == "leaving" or self.thing_kind(frame[4]) == "wind"

    def is_kept(self, kont, winds):
        return self.is_winds(winds) and all([self.is_frame(frame) for frame in kont])

    def has_kinds(self, thing):
        if thing[0] == "fn":
            return self.is_env(thing[2])
        if thing[0] == "kept":
            return self.is_kept(thing[1], thing[2])
        if thing[0] == "wind":
            return self.all_plain(thing[2:4]) and self.is_winds(thing[4])
        return self.all_plain(thing[1:])

    def has_control(self, control):
        return self.is_env(control[2]) if control[0] == "eval" else self.is_plain(control[1])

    def holds(self):
        control, kont, winds, things, inputs = self.image
        if not self.has_control(control) or not self.is_kept(kont, winds):
            return False
        return all([self.has_kinds(thing) for thing in things]) and not any([is_thing(value) for value in inputs])


def kinds_are_right(spots, image):
    """True if all values of an image are of the kinds that their places ask for."""
    return Kinds(spots, image).holds()


def rests_end(things):
    """True if following RESTs from each wind ends."""
    ended = {}
    for number, thing in enumerate(things):
        row = {}
        while thing[0] == "wind" and number not in ended:
            if number in row:
                return False
            row[number] = True
            if thing[4] == ():
                break
            number = thing[4][1]
            thing = things[number]
        ended.update(row)
    return True


def has_bases(kont, winds, things):
    """True if the frames "inside" of a KONT, newest first, are those of the first winds of WINDS."""
    for frame in kont[::-1]:
        if frame[0] == "inside":
            if winds == () or things[winds[1]][1] != frame[1]:
                return False
            winds = things[winds[1]][4]
    return True


def winds_are_right(image):
    """True if the winds of an image end, and go with the frames "inside" of each KONT."""
    if not rests_end(image[3]):
        return False
    return all([has_bases(kont, winds, image[3]) for kont, winds in konts_of(image)])
