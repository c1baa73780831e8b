"""Heaps in turns, and the machine that has such a heap."""

from keptrest.heap import is_address
from keptrest.rowsteps import OPEN, take_row, take_rows
from keptrest.turnengine import turn_engine, turn_state
from keptrest.turnheap import TurnHeap, is_gone, is_header, is_old


def bring(word, heap):
    """(the word brought, the heap in turns then)."""
    cells = TurnHeap(heap)
    brought = cells.bring(word)
    return (brought, cells.plain())


def flip(roots, heap):
    """(the roots, the heap) behind a flip of a heap in turns without old cells."""
    cells = TurnHeap(heap)
    cells.begin_flip()
    led = tuple([cells.bring_root(root) for root in roots])
    cells.end_flip()
    return (led, cells.plain())


def turn(heap):
    """The heap behind a turn."""
    cells = TurnHeap(heap)
    cells.turn()
    return cells.plain()


def leads_somewhere(item, old, new):
    """True if an old address leads to an old cell, or to one that is gone, and a gone one to a new cell."""
    cells = old if is_old(item) else new
    if not 0 <= item[1] < len(cells):
        return False
    target = cells[item[1]]
    return is_header(target) or (is_old(item) and is_gone(target))


def turns_fault(heap):
    """None if a heap in turns is as it must be, otherwise the first item that is wrong."""
    old, new, scan = heap
    for item in new[:scan]:
        if is_old(item):
            return item
    for item in (*new, *old):
        if (is_old(item) or is_gone(item)) and not leads_somewhere(item, old, new):
            return item
    return None


class Whole:
    """Goes through a heap in turns as if all were brought: cells are ("old", n) or ("at", n)."""

    def __init__(self, heap):
        self.old, self.new, _ = heap
        self.places = {}
        self.met = []
        self.end = 0

    def cell_of(self, word):
        """Where the cell of an address really is."""
        if is_old(word) and is_gone(self.old[word[1]]):
            return ("at", self.old[word[1]][1])
        return word

    def parts_at(self, cell):
        """The header and the items of a cell."""
        cells = self.new if cell[0] == "at" else self.old
        return cells[cell[1]:cell[1] + 1 + cells[cell[1]][3]]

    def meet(self, words):
        """Words with their addresses led to the new places of their cells."""
        led = []
        for word in words:
            if is_address(word) or is_old(word):
                cell = self.cell_of(word)
                if cell not in self.places:
                    self.places[cell] = self.end
                    self.end += len(self.parts_at(cell))
                    self.met.append(cell)
                word = ("at", self.places[cell])
            led.append(word)
        return led


def made_whole(roots, heap):
    """(ROOTS', HEAP') of a heap in turns collected."""
    whole = Whole(heap)
    led = whole.meet(roots)
    kept = []
    at = 0
    while at < len(whole.met):
        header, *parts = whole.parts_at(whole.met[at])
        kept.append(header)
        kept.extend(whole.meet(parts))
        at += 1
    return (tuple(led), tuple(kept))


def turns_begin(code, inputs):
    """The first state, with an empty heap in turns."""
    return (code[3], ("none",), (), (), (), ((), (), 0), inputs, (), 0)


def turns_step(code, room, deep, plan, state):
    """("on", STATE) with the next state, or ("ended", ENDING, OUTPUT)."""
    engine = turn_engine(code, room, deep, plan, state)
    ending = take_row(engine)
    if ending is not None:
        return ("ended", ending, tuple(engine.output))
    return ("on", turn_state(engine))


def turns_run(code, inputs, room, deep, plan, steps):
    """(ENDING, OUTPUT, COUNT, MAKINGS) of a run of at most so many steps."""
    engine = turn_engine(code, room, deep, plan, turns_begin(code, inputs))
    ending, count = take_rows(engine, steps)
    return (ending, tuple(engine.output), count, engine.made)


def turns_after(code, inputs, room, deep, plan, steps):
    """The state behind so many steps; None if the run has ended by then."""
    engine = turn_engine(code, room, deep, plan, turns_begin(code, inputs))
    return turn_state(engine) if take_rows(engine, steps)[0] == OPEN else None
