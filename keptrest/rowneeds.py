"""What the points of a code need, as masks of slots; VALUE has the bit behind the last slot."""

from keptrest.coderows import next_points, reads_value, slots_read
from keptrest.spots import bits_of, mask_of

VALUE_BIT = 1 << 60
SLOT_BITS = (1 << 60) - 1
GIVING_ROWS = ("load", "from", "open", "fill", "prim")
ENDING_ROWS = ("make", "back", "call", "known", "keep", "wind", "stop")


def own_need(row):
    """What a row reads itself."""
    mask = mask_of(slots_read(row))
    return mask | VALUE_BIT if reads_value(row) else mask


def handed_on(row, mask):
    """What a row needs of what a point behind it needs."""
    word = row[0]
    if word in GIVING_ROWS:
        return mask & SLOT_BITS
    if word == "to":
        return mask & ~(1 << row[1])
    return mask & VALUE_BIT if word == "go" else mask


def points_asked(row):
    """The points whose needs count for a row."""
    if row[0] in ENDING_ROWS:
        return ()
    return row[1:2] if row[0] == "go" else next_points(row)


def rows_asking(asked):
    """For each point the points that ask for its needs."""
    asking = [[] for _ in asked]
    for point, others in enumerate(asked):
        for other in others:
            asking[other].append(point)
    return asking


def need_masks(code):
    """The needs of all points, as masks."""
    rows = code[0]
    asked = [points_asked(row) for row in rows]
    asking = rows_asking(asked)
    own = [own_need(row) for row in rows]
    masks = list(own)
    waiting = list(range(len(rows)))
    waits = [True] * len(rows)
    while waiting:
        point = waiting.pop()
        waits[point] = False
        mask = own[point]
        for other in asked[point]:
            mask |= handed_on(rows[point], masks[other])
        if mask != masks[point]:
            masks[point] = mask
            again = [other for other in asking[point] if not waits[other]]
            waiting.extend(again)
            for other in again:
                waits[other] = True
    return masks


def slots_needed(mask):
    """The slots of a mask of needs, ascending."""
    return bits_of(mask & SLOT_BITS)


def needs_value(mask):
    """True if VALUE is in a mask of needs."""
    return mask & VALUE_BIT != 0


def reaches_slot(mask, many):
    """True if a mask of needs has a slot that is not below a number."""
    return (mask & SLOT_BITS) >> many != 0


def row_fault(row, masks):
    """The word of the fault of a row; None if it has none."""
    if row[0] == "push" and reaches_slot(masks[row[1]], len(row[2])):
        return "frame"
    if row[0] == "go" and reaches_slot(masks[row[1]], len(row[2])):
        return "go"
    if row[0] == "make" and masks[row[5]] & SLOT_BITS & ~mask_of(row[4]) != 0:
        return "live"
    return None


def first_unsound(code):
    """The pair (POINT, WORD) of the first fault that makes a code unsound; None if it is sound."""
    rows, _, entries, begin = code
    masks = need_masks(code)
    faults = []
    if masks[begin] != 0:
        faults.append((begin, 0, "start"))
    for entry in entries:
        mask = masks[entry[5]]
        if needs_value(mask) or reaches_slot(mask, len(entry[4])):
            faults.append((entry[5], 1, "entry"))
    for point, row in enumerate(rows):
        word = row_fault(row, masks)
        if word is not None:
            faults.append((point, 2, word))
    if not faults:
        return None
    point, _, word = min(faults)
    return (point, word)
