"""The faults of bent codes, compared with plain_walks."""

import os
import random
import sys
import unittest

sys.path.insert(0, os.path.dirname(os.path.abspath(__file__)))

import plain_meaning
import plain_walks
from samples import changed, programs, with_entry, with_map, with_row

from keptrest.code import code_form
from keptrest.codecheck import code_fault
from keptrest.codegen import compiled
from keptrest.core import node_count
from keptrest.names import renumbered
from keptrest.passing import turned


class Bender:
    """Changes one thing in a code."""

    def __init__(self, seed):
        self.source = random.Random(seed)

    def slots(self, row):
        row = list(row)
        kind = self.source.randrange(4)
        if kind == 0 and row:
            row.pop(self.source.randrange(len(row)))
        elif kind == 1:
            row.insert(self.source.randrange(len(row) + 1), self.source.randrange(5))
        elif kind == 2 and row:
            row[self.source.randrange(len(row))] = self.source.randrange(5)
        else:
            self.source.shuffle(row)
        return tuple(row)

    def field(self, code, point):
        row = code[0][point]
        if len(row) == 1:
            return code
        at = self.source.randrange(1, len(row))
        part = row[at]
        if type(part) is int:
            part = self.source.choice((part + 1, part - 1, self.source.randrange(len(code[0])), self.source.randrange(4)))
        elif row[0] == "make" and at == 4:
            part = tuple(sorted(set(self.slots(part))))
        elif type(part) is tuple and at >= 2:
            part = self.slots(part)
        elif row[0] == "load":
            part = self.source.choice((1, True, 0, False, (), 2, ("name", "a")))
        elif row[0] in ("prim", "stop") and at == 1:
            part = self.source.choice(("add", "less", "show", "more", "ask", "first", "kind", "zero", "count", "no function", "given up"))
        return with_row(code, point, changed(row, at, part))

    def chart(self, code, point):
        chart = code[1][point]
        named = [other for other in code[1] if other is not None]
        if chart is None:
            return with_map(code, point, self.source.choice(named + [None]))
        frames = [list(frame) for frame in chart[-1]]
        for frame in frames:
            frame[3] = tuple(self.source.choice((one, one, self.source.randrange(4), ("const", True), ("const", 1))) for one in frame[3])
        chart = (*chart[:-1], tuple(map(tuple, frames)))
        if chart[0] == "eval":
            chart = changed(chart, 2, tuple(self.source.choice((one, one, self.source.randrange(4))) for one in chart[2]))
        return with_map(code, point, self.source.choice((chart, chart, None)))

    def entry(self, code):
        at = self.source.randrange(len(code[2]))
        entry = code[2][at]
        part = self.source.randrange(2, 6)
        value = {2: not entry[2], 3: tuple(self.source.random() < 0.5 for _ in entry[3]), 5: self.source.choice(code[2])[5],
                 4: tuple(self.source.choice((one, ("own", 0), ("handed", 0), ("handed", 1))) for one in entry[4])}[part]
        return with_entry(code, at, changed(entry, part, value))

    def doubled(self, code, point):
        """A row is written once more, and one that leads to it leads there."""
        row = code[0][point]
        if type(row[-1]) is not int or row[0] == "keep" or row[-1] >= len(code[0]):
            return code
        rows = changed(code[0], point, (*row[:-1], len(code[0]))) + (code[0][row[-1]],)
        return (rows, code[1] + (self.source.choice((code[1][row[-1]], None)),), *code[2:])

    def bent(self, code):
        point = self.source.randrange(len(code[0]))
        kind = self.source.randrange(10)
        if kind < 4:
            return self.field(code, point)
        if kind == 4:
            return with_row(code, point, self.source.choice(code[0]))
        if kind < 7:
            return self.chart(code, self.source.choice((point, *[k for k, chart in enumerate(code[1]) if chart is not None])))
        if kind == 7 and code[2]:
            return self.entry(code)
        row = code[0][point]
        if kind == 8 and row[0] == "call" and code[2]:
            return with_row(code, point, ("known", row[1], self.source.choice(code[2])[0], row[2]))
        return self.doubled(code, point)


class Compared(unittest.TestCase):
    def cases(self):
        source = random.Random(1)
        made = plain_meaning.Programs(2)
        for _, program, _ in programs():
            yield program
        for k in range(120):
            program = renumbered(made.program(source.randrange(1, 5)))
            if node_count(program) < 70:
                yield turned(program)[0] if k % 9 == 0 else program

    def test_compared(self):
        bender = Bender(3)
        found = {}
        for program in self.cases():
            code = compiled(program)
            self.assertIsNone(plain_walks.code_fault(program, code))
            for k in range(12):
                bent = code
                for _ in range(1 + k % 3):
                    bent = bender.bent(bent)
                if code_form(program, bent):
                    told = code_fault(program, bent)
                    self.assertEqual(repr(told), repr(plain_walks.code_fault(program, bent)), (program, bent))
                    word = told if told is None else told[0] if told[0] == "entry" else told[2]
                    found[word] = found.get(word, 0) + 1
        self.assertLessEqual({None, "entry", "empty", "event", "words", "roots", "map", "turn"}, set(found))


if __name__ == "__main__":
    unittest.main()
