"""What the promises of the passes rule out, slowly and straight from the words of the document."""

from plain_walks import Program, Walk


def visits(program, code):
    """The dict from words to the ascending tuples of the points that are so in some walk."""
    told = Program(program)
    found = set()
    for k, chart in enumerate(code[1]):
        if chart is not None:
            walk = Walk(told, code, k, [])
            walk.check()
            found |= walk.visits
    words = ("come to", "idle", "knowable")
    return {word: tuple(sorted(point for point, other in found if other == word)) for word in words}


def reads(row):
    """The slots that a row reads."""
    word = row[0]
    if word in ("from", "open", "fill"):
        return (row[1],)
    if word == "make":
        return row[3] + row[4]
    if word in ("prim", "known"):
        return row[3]
    if word in ("push", "go", "call", "wind"):
        return row[2]
    return (row[2],) if word == "keep" else ()


def slots_of_map(chart):
    rows = ([chart[2]] if chart[0] == "eval" else []) + [frame[3] for frame in chart[-1]]
    return {one for sources in rows for one in sources if type(one) is int}


def behind(row):
    if row[0] == "test":
        return row[1:]
    return () if row[0] in ("go", "back", "call", "known", "keep", "wind", "stop") else row[-1:]


def slot_is_read(code, point, slot):
    """True if a slot is read on some way from a point on, or named where it ends."""
    if code[1][point] is not None:
        return slot in slots_of_map(code[1][point])
    row = code[0][point]
    if slot in reads(row):
        return True
    if row[:2] == ("to", slot) or row[0] == "make":
        return False
    return any(slot_is_read(code, other, slot) for other in behind(row))


def value_is_read(code, point):
    """True if VALUE is read on some way from a point on, or a map "give" is come to."""
    if code[1][point] is not None:
        return code[1][point][0] == "give"
    row = code[0][point]
    if row[0] in ("to", "fill", "test", "back"):
        return True
    if row[0] in ("load", "from", "open", "prim", "make"):
        return False
    if row[0] == "go":
        return code[1][row[1]][0] == "give"
    return any(value_is_read(code, other) for other in behind(row))


def is_waste(code, point):
    row = code[0][point]
    if row[0] == "to":
        return not slot_is_read(code, row[2], row[1])
    return row[0] in ("load", "from") and not value_is_read(code, row[2])


def waste_points(program, code):
    return tuple(point for point in visits(program, code)["come to"] if is_waste(code, point))


def points_of(row):
    """The points of a row, as they stand in it."""
    word = row[0]
    if word in ("push", "go"):
        return row[1:2] + (row[3:] if word == "push" else ())
    return behind(row)


def in_use(code):
    rows, _, entries, start = code
    found, waiting = set(), [start] + [entry[5] for entry in entries]
    while waiting:
        point = waiting.pop()
        if point not in found:
            found.add(point)
            waiting += points_of(rows[point])
    return tuple(sorted(found))


def bare(row):
    """A row without its points, as a text that tells True from 1."""
    word = row[0]
    if word == "test":
        return "test"
    if word == "push":
        return repr((word, row[2]))
    if word == "go":
        return repr((word, row[2]))
    return repr(row[:-1] if behind(row) else row)


def alike_points(code):
    rows, maps = code[:2]
    label = [bare(row) + repr(chart) for row, chart in zip(rows, maps)]
    while True:
        finer = [(label[k], tuple(label[other] for other in points_of(row))) for k, row in enumerate(rows)]
        names = {}
        for one in finer:
            names.setdefault(one, len(names))
        finer = [names[one] for one in finer]
        if len(set(finer)) == len(set(label)):
            break
        label = finer
    classes = {}
    for k, one in enumerate(label):
        classes.setdefault(one, []).append(k)
    return tuple(sorted(tuple(points) for points in classes.values()))


def renamed(row, led):
    row = list(row)
    word = row[0]
    at = [1, 2] if word == "test" else [1, 3] if word == "push" else [1] if word == "go" else [len(row) - 1] if behind(row) else []
    for k in at:
        row[k] = led[row[k]]
    return tuple(row)


def shared(code):
    rows, maps, entries, start = code
    first = {point: points[0] for points in alike_points(code) for point in points}
    order = [first[start]]
    at = 0
    while True:
        while at < len(order):
            for point in points_of(rows[order[at]]):
                if first[point] not in order:
                    order.append(first[point])
            at += 1
        left = [entry[5] for entry in entries if first[entry[5]] not in order]
        if not left:
            break
        order.append(first[left[0]])
    led = {point: order.index(one) for point, one in first.items() if one in order}
    return (tuple(renamed(rows[point], led) for point in order), tuple(maps[point] for point in order),
            tuple((*entry[:5], led[entry[5]]) for entry in entries), 0)
