"""The form of images: what stands where, whatever program they are for."""

from keptrest.codemaps import is_path
from keptrest.datatext import is_constant_datum
from keptrest.numbering import image_and_order
from keptrest.sameness import is_integer

FRAME_VALUES = {"set": 1, "began": 3, "inside": 0, "ended": 1, "leaving": 2, "entering": 3}
NAMED_FRAMES = ("if", "let", "seq")


def is_image_value(value, many):
    """True for a constant, or for ("thing", k) with k below a number."""
    if is_constant_datum(value):
        return True
    if type(value) is not tuple or len(value) != 2 or value[0] != "thing":
        return False
    return is_integer(value[1]) and 0 <= value[1] < many


def are_image_values(values, many):
    return type(values) is tuple and all([is_image_value(value, many) for value in values])


def is_env_pair(pair, many):
    if type(pair) is not tuple or len(pair) != 2:
        return False
    return is_integer(pair[0]) and pair[0] >= 0 and is_image_value(pair[1], many)


def is_env(env, many):
    return type(env) is tuple and all([is_env_pair(pair, many) for pair in env])


def is_part(value):
    """True for a tuple that has a word in front and a path behind it."""
    return type(value) is tuple and len(value) >= 2 and type(value[0]) is str and is_path(value[1])


def is_image_control(control, many):
    if type(control) is tuple and len(control) == 2 and control[0] == "give":
        return is_image_value(control[1], many)
    return is_part(control) and len(control) == 3 and control[0] == "eval" and is_env(control[2], many)


def is_image_frame(frame, many):
    if not is_part(frame):
        return False
    kind = frame[0]
    if kind in NAMED_FRAMES:
        return len(frame) == 3 and is_env(frame[2], many)
    if kind == "args":
        return len(frame) == 4 and are_image_values(frame[2], many) and is_env(frame[3], many)
    return FRAME_VALUES.get(kind) == len(frame) - 2 and are_image_values(frame[2:], many)


def is_image_kont(kont, many):
    return type(kont) is tuple and all([is_image_frame(frame, many) for frame in kont])


def is_image_thing(thing, many):
    if type(thing) is not tuple or len(thing) == 0:
        return False
    kind = thing[0]
    if kind in ("pair", "box"):
        return len(thing) == (3 if kind == "pair" else 2) and are_image_values(thing[1:], many)
    if kind == "kept":
        return len(thing) == 3 and is_image_kont(thing[1], many) and is_image_value(thing[2], many)
    if kind == "fn":
        return len(thing) == 3 and is_path(thing[1]) and is_env(thing[2], many)
    return kind == "wind" and len(thing) == 5 and is_path(thing[1]) and are_image_values(thing[2:], many)


def has_image_form(value):
    """True for a tuple as images are, each of whose things has its own number."""
    if type(value) is not tuple or len(value) != 5 or type(value[3]) is not tuple:
        return False
    control, kont, winds, things, inputs = value
    many = len(things)
    if not is_image_control(control, many) or not is_image_kont(kont, many) or not is_image_value(winds, many):
        return False
    if not all([is_image_thing(thing, many) for thing in things]) or not are_image_values(inputs, many):
        return False
    return image_and_order((*value, ()))[1] == list(range(many))
