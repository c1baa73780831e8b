"""The pass that leaves out rows that put into slots or into VALUE what nobody reads.

What is read behind a point is told by masks, as needs are; behind a named point just its map counts.
"""

from keptrest.codemaps import count_window, sources_of
from keptrest.codepoints import code_of_points, led_row, points_from_ends
from keptrest.rowneeds import VALUE_BIT, handed_on, own_need, points_asked
from keptrest.spots import mask_of
from keptrest.unfolding import unfolded, walks_through

GIVES = ("load", "from")


def named_slots(chart):
    """The slots that a map names, as often as it names them."""
    return [source for source in sources_of(chart) if type(source) is int]


def mask_of_map(chart):
    """What a way that ends at a point with this map reads there."""
    mask = mask_of(named_slots(chart))
    return mask | VALUE_BIT if chart[0] == "give" else mask


def masks_of_maps(maps):
    """The dict from the named points to their masks."""
    return {point: mask_of_map(chart) for point, chart in enumerate(maps) if chart is not None}


def mask_of_row(row, masks):
    """What ways that begin with a row read, if it is known for the points behind it."""
    mask = own_need(row)
    for point in points_asked(row):
        mask |= handed_on(row, masks[point])
    return mask


def is_waste(row, masks):
    """True if what a row puts somewhere is read on no way behind it."""
    if row[0] == "to":
        return masks[row[2]] >> row[1] & 1 == 0
    return row[0] in GIVES and masks[row[2]] & VALUE_BIT == 0


def waste_points(program, code):
    """The points of the waste rows to which some walk comes, ascending."""
    rows, maps = code[:2]
    masks = masks_of_maps(maps)
    for point in points_from_ends(rows, maps):
        masks[point] = mask_of_row(rows[point], masks)
    walked = sorted(list(walks_through(program, code).walked))
    return tuple([point for point in walked if is_waste(rows[point], masks)])


def going_row(point, chart):
    """A row "go" that leaves everything as it is; slots that the map does not name get what any other one has."""
    slots = named_slots(chart)
    kept = [slot if slot in slots else slots[0] for slot in range(count_window(chart))]
    return ("go", point, tuple(kept))


class Placer:
    """Leaves out the waste rows of an unfolded code; ahead leads each point to the one that takes its place.

    In an unfolded code just one row leads to each point without a name. So where the row of a named point is left
    out, the row behind it moves there, or a row "go" takes its place if the point behind it is named as well.
    """

    def __init__(self, code):
        self.rows = list(code[0])
        self.maps = code[1]
        self.masks = masks_of_maps(self.maps)
        self.ahead = {point: point for point in range(len(self.rows))}
        self.left_out = {}

    def take(self, point):
        """Leads the points of a row on; True if it is waste, what stands behind it being done."""
        self.rows[point] = led_row(self.rows[point], self.ahead)
        return is_waste(self.rows[point], self.masks)

    def place_unnamed(self, point):
        if self.take(point):
            self.left_out[point] = True
            self.ahead[point] = self.rows[point][2]
        else:
            self.masks[point] = mask_of_row(self.rows[point], self.masks)

    def place_named(self, point):
        if self.take(point):
            behind = self.rows[point][2]
            if self.maps[behind] is None:
                self.left_out[behind] = True
                self.rows[point] = self.rows[behind]
            else:
                self.rows[point] = going_row(behind, self.maps[behind])

    def place_all(self):
        """The points that are kept, ascending."""
        for point in points_from_ends(self.rows, self.maps):
            self.place_unnamed(point)
        for point, chart in enumerate(self.maps):
            if chart is not None:
                self.place_named(point)
        return [point for point in range(len(self.rows)) if point not in self.left_out]


def placed(program, code):
    """A code of the same program whose walks come to no waste row."""
    whole = unfolded(program, code, False)
    placer = Placer(whole)
    kept = placer.place_all()
    moved = {point: k for k, point in enumerate(kept)}
    return code_of_points((tuple(placer.rows), *whole[1:]), kept, moved)
