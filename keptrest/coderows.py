"""The rows of codes: what stands in them, where they lead, what they read."""

from keptrest.datatext import is_constant_datum
from keptrest.prims import is_prim, prim_places
from keptrest.sameness import is_integer

MOST_ROWS = 30000
LAST_SLOT = 59
FIELDS = {
    "load": ("constant", "next"),
    "from": ("slot", "next"),
    "to": ("slot", "next"),
    "open": ("slot", "next"),
    "fill": ("slot", "next"),
    "prim": ("prim", "place", "slots", "next"),
    "make": ("what", "place", "slots", "live", "next"),
    "test": ("next", "next"),
    "push": ("point", "slots", "next"),
    "go": ("point", "slots"),
    "back": (),
    "call": ("place", "slots"),
    "known": ("place", "place", "slots"),
    "keep": ("place", "slot"),
    "wind": ("place", "slots"),
    "stop": ("stop", "place"),
}
READ_VALUE = ("to", "fill", "test", "back")
READ_SLOT = ("from", "open", "fill")
ROWLESS_PRIMS = ("pair", "keep", "wind", "give up")
WHATS = ("fn", "box", "pair")
STOP_WORDS = ("range", "zero", "kind", "count", "no function", "given up")


def is_slot(value):
    """True for the number of a slot."""
    return is_integer(value) and 0 <= value <= LAST_SLOT


def are_slots(value):
    """True for a tuple of slots."""
    return type(value) is tuple and all([is_slot(slot) for slot in value])


def is_live(value):
    """True for an ascending tuple of slots, each once."""
    return are_slots(value) and all([value[k] < value[k + 1] for k in range(len(value) - 1)])


def is_point(value, many):
    """True for a point of a code of so many rows."""
    return is_integer(value) and 0 <= value < many


def is_what(value):
    """True for what a row may make."""
    return type(value) is tuple and len(value) == 1 and value[0] in WHATS


def is_row_prim(value):
    """True for the name of a prim that has rows."""
    return type(value) is str and is_prim(value) and value not in ROWLESS_PRIMS


def is_field(field, value, many, is_place):
    """True if a value may stand in a field of a row."""
    if field in ("next", "point"):
        return is_point(value, many)
    if field == "slot":
        return is_slot(value)
    if field == "slots":
        return are_slots(value)
    if field == "place":
        return is_place(value)
    if field == "constant":
        return is_constant_datum(value)
    if field == "live":
        return is_live(value)
    if field == "prim":
        return is_row_prim(value)
    return is_what(value) if field == "what" else type(value) is str and value in STOP_WORDS


def has_slots_wanted(row):
    """True if a row whose fields are right has as many slots as it wants by itself."""
    word = row[0]
    if word == "prim":
        return len(row[3]) == prim_places(row[1])
    if word == "make" and row[1] != ("fn",):
        return len(row[3]) == (1 if row[1] == ("box",) else 2)
    return word != "wind" or len(row[2]) == 3


def is_row(row, many, is_place):
    """True for a row of a code of so many rows; is_place tells what may stand as a place."""
    if type(row) is not tuple or len(row) == 0 or type(row[0]) is not str or row[0] not in FIELDS:
        return False
    fields = FIELDS[row[0]]
    if len(row) != len(fields) + 1:
        return False
    for k, field in enumerate(fields):
        if not is_field(field, row[k + 1], many, is_place):
            return False
    return has_slots_wanted(row)


def has_parts(value):
    """True if a value is built of ROWS, MAPS, ENTRIES and START, what is in the first three not looked at."""
    if type(value) is not tuple or len(value) != 4:
        return False
    rows, maps, entries, begin = value
    if type(rows) is not tuple or type(maps) is not tuple or type(entries) is not tuple:
        return False
    return 1 <= len(rows) <= MOST_ROWS and len(maps) == len(rows) and is_point(begin, len(rows))


def next_points(row):
    """Where a row continues: its NEXT, or its YES and NO."""
    if row[0] == "test":
        return row[1:]
    fields = FIELDS[row[0]]
    return row[-1:] if fields and fields[-1] == "next" else ()


def slots_read(row):
    """The slots that a row reads, LIVE counted too."""
    word = row[0]
    if word in READ_SLOT:
        return row[1:2]
    if word == "make":
        return row[3] + row[4]
    if word == "prim":
        return row[3]
    if word in ("push", "go", "call", "wind"):
        return row[2]
    if word == "known":
        return row[3]
    return row[2:] if word == "keep" else ()


def reads_value(row):
    """True if a row reads VALUE."""
    return row[0] in READ_VALUE
