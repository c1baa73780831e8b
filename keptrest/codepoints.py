"""The points that stand in rows, and codes whose points are led elsewhere."""

from keptrest.coderows import FIELDS, next_points

POINT_FIELDS = ("next", "point")


def point_indices(row):
    """Where points stand in a row, ascending."""
    return [k + 1 for k, field in enumerate(FIELDS[row[0]]) if field in POINT_FIELDS]


def row_points(row):
    """The points of a row, as they stand in it."""
    return tuple([row[k] for k in point_indices(row)])


def led_row(row, moved):
    """A row with its points led by a dict."""
    led = list(row)
    for k in point_indices(row):
        led[k] = moved[row[k]]
    return tuple(led)


def code_of_points(code, points, moved):
    """The code that has these points of a code, in this order, all points led by a dict."""
    rows, maps, entries, begin = code
    led = tuple([led_row(rows[point], moved) for point in points])
    charts = tuple([maps[point] for point in points])
    heads = tuple([(*entry[:-1], moved[entry[-1]]) for entry in entries])
    return (led, charts, heads, moved[begin])


def unnamed_behind(row, maps):
    """The points without names to which a row leads at once."""
    return [point for point in next_points(row) if maps[point] is None]


def points_from_ends(rows, maps):
    """The points without names, each one behind those to which it leads; there are no rings of them."""
    left = {}
    for start in range(len(rows)):
        waiting = [start] if maps[start] is None else []
        while waiting:
            point = waiting[-1]
            behind = [other for other in unnamed_behind(rows[point], maps) if other not in left]
            if behind:
                waiting.extend(behind)
            else:
                waiting.pop()
                left[point] = True
    return list(left)
