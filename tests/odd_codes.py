"""Codes that no compiler would write, made from others by changes that are kept if the code is still let by."""

import random

from plain_passes import behind, points_of, renamed

from keptrest.code import code_form, window_size
from keptrest.codecheck import Walks, code_fault, pushed_frames, standing_at
from keptrest.core import places_of, term_at
from keptrest.quiet import is_end, way_from
from keptrest.rowside import RowSide
from keptrest.signs import is_sign, plain_word
from keptrest.spots import free_numbers_of


def moved_code(code, order):
    """The code whose points are those of an order."""
    led = {point: k for k, point in enumerate(order)}
    rows, maps, entries, start = code
    return (tuple(renamed(rows[point], led) for point in order), tuple(maps[point] for point in order),
            tuple((*entry[:5], led[entry[5]]) for entry in entries), led[start])


class Odd:
    def __init__(self, seed):
        self.source = random.Random(seed)

    def inserted(self, code, point, *rows):
        """Rows behind a point, ahead of its NEXT; a None in them means the row behind, NEXT the point behind all."""
        old, maps = code[:2]
        row = old[point]
        if not behind(row):
            return code
        at = self.source.choice([1, 2]) if row[0] == "test" else len(row) - 1
        after = row[at]
        many = len(old)
        new = []
        for k, one in enumerate(rows):
            further = many + k + 1 if k + 1 < len(rows) else after
            new.append(tuple(further if part is None else part for part in one))
        row = (*row[:at], many, *row[at + 1:])
        return ((*old[:point], row, *old[point + 1:], *new), maps + (None,) * len(new), *code[2:])

    def constant(self):
        return self.source.choice((1, True, 0, False, (), 7, ("name", "a")))

    def bit(self, code, point):
        """Something that does nothing, or waste, or idle."""
        source = self.source
        slot = source.randrange(12)
        kind = source.randrange(8)
        load = ("load", self.constant(), None)
        if kind == 0:
            return self.inserted(code, point, load)
        if kind == 1:
            return self.inserted(code, point, load, ("to", slot, None))
        if kind == 2:
            return self.inserted(code, point, ("to", slot, None))
        if kind == 3:
            return self.inserted(code, point, ("from", slot, None))
        if kind == 4:
            return self.inserted(code, point, ("to", 50, None), load, ("test", None, None), ("from", 50, None))
        if kind == 5:
            code = self.inserted(code, point, load, ("test", None, None))
            rows = code[0]
            last = rows[-1]
            if last[0] != "test":
                return code
            other = source.randrange(len(rows))
            last = source.choice((("test", last[1], other), ("test", other, last[2])))
            return (rows[:-1] + (last,), *code[1:])
        if kind == 6:
            name = source.choice(("add", "below", "same", "is pair"))
            wanted = 1 if name == "is pair" else 2
            place = source.choice(self.places.get(name) or [None])
            if place is None:
                return code
            rows = [part for k in range(wanted) for part in (("load", source.choice((1, 5, 0)), None), ("to", 40 + k, None))]
            return self.inserted(code, point, *rows, ("prim", name, place, tuple(range(40, 40 + wanted)), None))
        return self.inserted(code, point, ("to", slot, None), ("from", slot, None))

    def doubled(self, code, point):
        """A point twice, with or without its map, and one that leads to it leads there."""
        rows, maps, entries, start = code
        leading = [k for k, row in enumerate(rows) if point in points_of(row)]
        new = len(rows)
        rows = list(rows) + [rows[point]]
        if leading:
            k = self.source.choice(leading)
            rows[k] = renamed(rows[k], {other: new if other == point and self.source.random() < 0.7 else other
                                        for other in points_of(rows[k])})
        chart = maps[point] if self.source.random() < 0.7 else None
        return (tuple(rows), maps + (chart,), entries, start)

    def mixed(self, code):
        order = list(range(len(code[0])))
        self.source.shuffle(order)
        return moved_code(code, order)

    def live(self, code, point):
        row = code[0][point]
        if row[0] != "make":
            return code
        live = set(row[4]) ^ {self.source.randrange(8)}
        return (code[0][:point] + ((*row[:4], tuple(sorted(live)), row[5]),) + code[0][point + 1:], *code[1:])

    def going(self, code, point):
        """A row "go" ahead of a named point."""
        maps = code[1]
        row = code[0][point]
        if not behind(row) or maps[row[-1]] is None:
            return code
        size = window_size(code, row[-1])
        slots = tuple(k if self.source.random() < 0.9 else self.source.randrange(size) for k in range(size))
        new = len(maps)
        rows = code[0][:point] + ((*row[:-1], new),) + code[0][point + 1:] + (("go", row[-1], slots),)
        return (rows, maps + (None,), *code[2:])

    def spots_told(self, program, code):
        """The pairs (POINT, SIDE, WAY) of all points without names to which walks come."""
        walks = Walks(program, code)
        found = []
        for point, chart in enumerate(code[1]):
            if chart is None:
                continue
            side = RowSide(walks.spots, code, point)
            side.begin(walks.sure)
            waiting = [(side, way_from(standing_at(side), walks.spots))]
            while waiting:
                side, way = waiting.pop()
                while not side.is_at_name():
                    found.append((side.point, side.copied(), way))
                    told = side.take_row()
                    if told is None:
                        continue
                    if is_end(told[1]):
                        break
                    others = []
                    way = walks.behind(side, told[1], way[-1], others)
                    waiting += [other[:2] for other in others]
        return [(point, side, way) for point, side, way in found if code[1][point] is None]

    def source_of(self, word, window, boxed):
        held = [k for k, one in enumerate(window) if one == word]
        if held and (is_sign(word) or boxed or self.source.random() < 0.3):
            return self.source.choice(held)
        return None if is_sign(word) or boxed else ("const", plain_word(word))

    def named(self, program, code):
        """A point without a name gets one, by a standing of the meaning."""
        spots = self.spots_told(program, code)
        if not spots:
            return code
        point, side, way = self.source.choice(spots)
        control, frames = self.source.choice(way)
        pushed = pushed_frames(side)
        if list(frames[:len(pushed)]) != pushed:
            return code
        window = side.window
        local = tuple((kind, spot.place, done, tuple(self.source_of(word, window, kind == "set") for word in words))
                      for kind, spot, done, words in frames[len(pushed):])
        if control[0] == "eval":
            numbers = free_numbers_of(control[1])
            sources = tuple(self.source_of(word, window, side.spots.is_boxed(n)) for n, word in zip(numbers, control[2]))
            chart = ("eval", control[1].place, sources, local)
        else:
            chart = ("give", local)
        return (code[0], code[1][:point] + (chart,) + code[1][point + 1:], *code[2:])

    def one(self, program, code):
        point = self.source.randrange(len(code[0]))
        kind = self.source.randrange(10)
        if kind < 4:
            return self.bit(code, point)
        if kind == 4:
            return self.doubled(code, point)
        if kind == 5:
            return self.mixed(code)
        if kind == 6:
            return self.live(code, point)
        if kind == 7:
            return self.going(code, point)
        return self.named(program, code)

    def changed(self, program, code, turns):
        """A code that is let by, after so many tries of changes."""
        self.places = {}
        for place in places_of(program):
            term = term_at(program, place)
            if term[0] == "prim":
                self.places.setdefault(term[1], []).append(place)
        for _ in range(turns):
            other = self.one(program, code)
            if code_form(program, other) and code_fault(program, other) is None:
                code = other
        return code
