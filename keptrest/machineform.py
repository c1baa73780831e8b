"""Machine codes: their form."""

from keptrest.codemaps import are_truths, is_path
from keptrest.coderows import has_parts, is_point, is_row
from keptrest.sameness import is_integer

MOST_PARAMS = 13
MOST_PICKS = 60
DEEPEST_PLACE = 200


def is_machine_place(value):
    """True for what may stand as a place in a machine code."""
    return is_path(value) and len(value) <= DEEPEST_PLACE


def is_machine_pick(value, handed):
    """True for an entry of PICKS, with so many handed words."""
    if type(value) is not tuple or len(value) != 2 or not is_integer(value[1]) or value[1] < 0:
        return False
    return value[0] == "own" or (value[0] == "handed" and value[1] < handed)


def are_machine_picks(value, handed):
    """True for PICKS, with so many handed words."""
    if type(value) is not tuple or len(value) > MOST_PICKS:
        return False
    return all([is_machine_pick(pick, handed) for pick in value])


def is_machine_entry(entry, many):
    """True for an entry of a machine code of so many rows."""
    if type(entry) is not tuple or len(entry) != 6:
        return False
    place, params, rest, boxed, picks, point = entry
    if not is_machine_place(place) or not is_integer(params) or not 0 <= params <= MOST_PARAMS:
        return False
    if type(rest) is not bool or not are_truths(boxed, params + 1) or (boxed[-1] and not rest):
        return False
    return are_machine_picks(picks, params + (1 if rest else 0)) and is_point(point, many)


def fits_entries(row, entries):
    """True if a row that makes or calls a function goes with its entry; entries is a dict by places."""
    if row[0] == "make" and row[1] == ("fn",):
        entry = entries.get(row[2])
        return entry is not None and all([pick[1] < len(row[3]) for pick in entry[4] if pick[0] == "own"])
    if row[0] == "known":
        entry = entries.get(row[2])
        many = len(row[3]) - 1
        return entry is not None and (many == entry[1] or (entry[2] and many > entry[1]))
    return row[0] != "call" or len(row[2]) > 0


def has_machine_form(value):
    """True for a machine code."""
    if not has_parts(value):
        return False
    rows, _, entries, _ = value
    many = len(rows)
    if not all([is_row(row, many, is_machine_place) for row in rows]):
        return False
    if not all([is_machine_entry(entry, many) for entry in entries]):
        return False
    if not all([entries[k][0] < entries[k + 1][0] for k in range(len(entries) - 1)]):
        return False
    by_place = {entry[0]: entry for entry in entries}
    return all([fits_entries(row, by_place) for row in rows])
