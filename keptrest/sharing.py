"""The passes that leave out points: those out of use, and those that are like others."""

from keptrest.classes import classes_of
from keptrest.codepoints import code_of_points, point_indices, row_points
from keptrest.signs import written


def points_from(starts, rows):
    """The dict of the points to which rows lead from some points on."""
    found = {}
    waiting = list(starts)
    while waiting:
        point = waiting.pop()
        if point not in found:
            found[point] = True
            waiting.extend(row_points(rows[point]))
    return found


def used_points(code):
    """The points in use, ascending."""
    rows, _, entries, begin = code
    return tuple(sorted(list(points_from([begin] + [entry[-1] for entry in entries], rows))))


def pruned(program, code):
    """The code without the points that are not in use."""
    points = used_points(code)
    return code_of_points(code, points, {point: k for k, point in enumerate(points)})


def marked(data):
    """Data whose truths are written so that they are equal to no integers."""
    if type(data) is tuple:
        return tuple([marked(part) for part in data])
    return written(data)


def key_of(row, chart):
    """What points that are alike have the same of: a row without its points, and a map."""
    indices = point_indices(row)
    return marked((*[part for k, part in enumerate(row) if k not in indices], chart))


def alike_points(code):
    """The classes of points that are alike, ascending by their first points."""
    rows, maps = code[:2]
    keys = [key_of(row, chart) for row, chart in zip(rows, maps)]
    targets = [row_points(row) for row in rows]
    return tuple([tuple(points) for points in classes_of(keys, targets)])


def first_of_all(code):
    """The dict from each point to the first one of its class."""
    return {point: points[0] for points in alike_points(code) for point in points}


def met_points(code, first):
    """The first points of the classes in use, in the order in which they are met."""
    rows, _, entries, begin = code
    met = {}
    order = []
    at = 0
    for start in [begin] + [entry[-1] for entry in entries]:
        waiting = (start,)
        while waiting is not None:
            for point in waiting:
                if first[point] not in met:
                    met[first[point]] = True
                    order.append(first[point])
            waiting = None
            if at < len(order):
                waiting = row_points(rows[order[at]])
                at += 1
    return order


def shared(program, code):
    """The code with one point for each class of points in use."""
    first = first_of_all(code)
    order = met_points(code, first)
    numbers = {point: k for k, point in enumerate(order)}
    moved = {point: numbers[other] for point, other in first.items() if other in numbers}
    return code_of_points(code, order, moved)
