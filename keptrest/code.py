"""Codes: which values have their form, their named points, and sure numbers."""

from keptrest.codemaps import count_window, entry_has_form, is_map, is_place_of
from keptrest.codepoints import unnamed_behind
from keptrest.coderows import has_parts, is_row, next_points
from keptrest.moves import frame_kind
from keptrest.spots import Spots, free_numbers_of

MOST_WAYS = 1000


def named_points(code):
    """The named points of a code, ascending."""
    return tuple([point for point, chart in enumerate(code[1]) if chart is not None])


def window_size(code, point):
    """The window size of a named point."""
    return count_window(code[1][point])


def sure_numbers(program):
    """The pairs (n, q) of the sure numbers of a program and the places of their fns."""
    sure = Spots(program).sure_fns()
    return tuple([(number, sure[number].place) for number in sorted(list(sure))])


def fits_term(row, spots):
    """True if the term at the place of a row fits the row."""
    word = row[0]
    if word in ("call", "known"):
        spot = spots.at[row[1]]
        known = word == "call" or spots.at[row[2]].kind == "fn"
        return known and spot.kind == "call" and len(spot.below) == len(row[-1])
    if word == "prim":
        return is_prim_spot(spots.at[row[2]], row[1])
    if word == "make":
        return fits_making(row, spots)
    if word in ("keep", "wind"):
        return is_prim_spot(spots.at[row[1]], word)
    return word != "stop" or frame_kind(spots.at[row[2]]) == "args"


def is_prim_spot(spot, name):
    """True for a node that is a prim of this name."""
    return spot.kind == "prim" and spot.node[1] == name


def fits_making(row, spots):
    """True if the term at the place of a row "make" makes what the row makes."""
    spot = spots.at[row[2]]
    if row[1] == ("fn",):
        return spot.kind == "fn" and len(free_numbers_of(spot)) == len(row[3])
    if row[1] == ("box",):
        return spot.kind == "let" and spots.is_boxed(spot.node[1])
    return is_prim_spot(spot, "pair")


def has_targets(row, maps):
    """True if the r of a push and the t of a go are named as they must be."""
    if row[0] == "push":
        chart = maps[row[1]]
        if chart is None or chart[0] != "give" or len(chart[1]) != 1:
            return False
        return chart[1][0][3] == tuple(range(len(row[2])))
    if row[0] == "go":
        chart = maps[row[1]]
        return chart is not None and count_window(chart) == len(row[2])
    return True


def ways_from(row, maps, ways):
    """How many ways lead from a row, those from points without names being known."""
    points = next_points(row)
    if points == ():
        return 1
    return sum([1 if maps[point] is not None else ways[point] for point in points])


def has_good_ways(rows, maps):
    """True if no way is without end and at most 1,000 ways lead from each named point."""
    ways = {}
    begun = {}
    for start in range(len(rows)):
        waiting = [start] if maps[start] is None else []
        while waiting:
            point = waiting[-1]
            if point in ways:
                waiting.pop()
                continue
            behind = [other for other in unnamed_behind(rows[point], maps) if other not in ways]
            if behind and point in begun:
                return False
            begun[point] = True
            if behind:
                waiting.extend(behind)
            else:
                ways[point] = min(ways_from(rows[point], maps, ways), MOST_WAYS + 1)
    named = [row for row, chart in zip(rows, maps) if chart is not None]
    return all([ways_from(row, maps, ways) <= MOST_WAYS for row in named])


def has_entries(entries, maps, spots):
    """True if the entries are those of the fns of a program, by their form."""
    fns = spots.all_fns()
    if len(entries) != len(fns):
        return False
    return all([entry_has_form(entry, spot, maps) for entry, spot in zip(entries, fns)])


def code_form(program, value):
    """True for a code of the form for a program."""
    if not has_parts(value):
        return False
    rows, maps, entries, begin = value
    spots = Spots(program)

    def is_place(place):
        return is_place_of(place, spots)

    if not all([is_row(row, len(rows), is_place) and fits_term(row, spots) for row in rows]):
        return False
    if not all([chart is None or is_map(chart, spots) for chart in maps]):
        return False
    if not has_entries(entries, maps, spots) or maps[begin] != ("eval", (), (), ()):
        return False
    return all([has_targets(row, maps) for row in rows]) and has_good_ways(rows, maps)
