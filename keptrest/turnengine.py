"""The machine whose heap is collected in turns."""

from keptrest.engine import Engine
from keptrest.heap import cell_size, is_address
from keptrest.prims import do_prim
from keptrest.progtext import value_text
from keptrest.turnheap import TurnHeap, is_gone, is_old

PAIR_PRIMS = ("first", "second", "put first", "put second")


class TurnView:
    """A store for prims and texts: pairs and functions that words lead to, as things."""

    def __init__(self, cells, goes_deep):
        self.cells = cells
        self.goes_deep = goes_deep
        self.store = []
        self.addresses = {}
        self.waiting = []

    def value_of(self, word):
        """The value that stands for a word; a cell that is come to for the first time waits."""
        if not is_address(word) and not is_old(word):
            return word
        if is_old(word) and is_gone(self.cells.old[word[1]]):
            word = ("at", self.cells.old[word[1]][1])
        if word not in self.addresses:
            self.addresses[word] = len(self.store)
            self.store.append(("fn", (), ()))
            self.waiting.append(word)
        return ("thing", self.addresses[word])

    def values_of(self, words):
        """The values of words, with all that they lead to in the store."""
        values = [self.value_of(word) for word in words]
        while self.waiting:
            word = self.waiting.pop()
            cells = self.cells.new if word[0] == "at" else self.cells.old
            number = word[1]
            if cells[number][1] == "pair":
                parts = cells[number + 1:number + 3] if self.goes_deep else [(), ()]
                self.store[self.addresses[word]] = ("pair", self.value_of(parts[0]), self.value_of(parts[1]))
        return values


class TurnEngine(Engine):
    """Words are those of the new cells. A flip brings all that the step still uses, so that stands in lists here."""

    def __init__(self, code, room, deep, plan):
        Engine.__init__(self, code, room, deep)
        self.plan = plan
        self.cells = TurnHeap(((), (), 0))
        self.stack = []
        self.left = []
        self.winds_before = ()

    def cell_kind(self, word):
        """The KIND of the cell of an address; empty for constants."""
        return self.cells.new[word[1]][1] if is_address(word) else ""

    def cell_place(self, word):
        return self.cells.new[word[1]][2]

    def part(self, word, k):
        """An item of a cell, brought."""
        return self.cells.bring_item(word[1] + 1 + k)

    def own_word(self, word, k):
        return self.part(word, k)

    def fill_box(self, word, value):
        self.cells.new[word[1] + 1] = value

    def text_of(self, word):
        view = TurnView(self.cells, True)
        values = view.values_of([word])
        return value_text(view.store, values[0])

    def prim_told(self, name, words):
        """What a prim gives, or its trap; what it puts is put."""
        if name in PAIR_PRIMS:
            return self.pair_told(name, words)
        view = TurnView(self.cells, name == "alike")
        values = view.values_of(words)
        return do_prim(name, values, view.store)

    def pair_told(self, name, words):
        """What a prim that looks into a pair gives, or its trap."""
        if self.cell_kind(words[0]) != "pair":
            return ("trap", "kind")
        k = 0 if name in ("first", "put first") else 1
        if len(words) == 1:
            return ("give", self.part(words[0], k))
        self.cells.new[words[0][1] + 1 + k] = words[1]
        return ("give", ())

    def begin_making(self, named):
        """Keeps what may be roots of makings in this step; left are words that go off the stack in it."""
        self.named = named
        self.fresh = []
        self.held = []
        self.left = []
        self.winds_before = self.winds

    def begin_push(self, words, after):
        """A frame is put behind the stack without a making."""

    def push(self, frame):
        back = frame[:2] if frame[0] == "point" else ("point", *frame[:2])
        self.stack.extend(list(frame[2:]))
        self.stack.append(back)
        return True

    def take_frame(self):
        """The newest frame, which is taken off; None if there is none."""
        if not self.stack:
            return None
        back = self.stack.pop()
        words = []
        while self.stack and not is_return(self.stack[-1]):
            words.append(self.stack.pop())
        self.left.extend(words)
        return (*(back if len(back) == 2 else back[1:]), *words[::-1])

    def stack_length(self):
        return len(self.stack)

    def clear_stack(self):
        self.left.extend(self.stack)
        self.stack = []

    def restore_stack(self, kept):
        number = kept[1]
        end = number + 1 + self.cells.new[number][3]
        self.stack = [self.cells.bring_item(k) for k in range(number + 2, end)]

    def brought(self, words):
        """Words as they are when a flip has brought them."""
        return [self.cells.bring_root(word) for word in words]

    def flip(self, words):
        """A flip with all that the state and the step still use; gives the words of the cell to be made."""
        self.cells.begin_flip()
        words = self.brought(words)
        self.stack = self.brought(self.stack)
        self.named = self.brought(self.named)
        self.left = self.brought(self.left)
        self.fresh = self.brought(self.fresh)
        self.held = self.brought(self.held)
        self.window = self.brought(self.window)
        self.value, self.winds, self.winds_before = self.brought([self.value, self.winds, self.winds_before])
        self.cells.end_flip()
        return words

    def turn_to_end(self):
        """Does turns until nothing old is left."""
        while self.cells.old:
            self.cells.turn()

    def plan_now(self):
        """(turns, flips) of the making that comes."""
        if self.plan == ():
            return (0, False)
        return self.plan[min(self.made, len(self.plan) - 1)]

    def with_room(self, size, words):
        """The words of the cell to be made if there is room for it; otherwise None."""
        turns, flips = self.plan_now()
        if flips and not self.cells.old:
            words = self.flip(words)
        for _ in range(turns):
            self.cells.turn()
        if self.cells.all_words() + size > self.room:
            self.turn_to_end()
            words = self.flip(words)
            self.turn_to_end()
        return words if self.cells.all_words() + size <= self.room else None

    def put_cell(self, kind, data, words):
        """The address of a cell that is made; None if there is no room for it."""
        words = self.with_room(cell_size(kind, len(words)), words)
        if words is None:
            return None
        word = self.cells.put(kind, data, words)
        self.made += 1
        self.fresh.append(word)
        return word

    def make(self, kind, place, words):
        return self.put_cell(kind, place if kind in ("fn", "wind") else None, words)

    def make_kept(self, _):
        return self.put_cell("kept", None, [self.winds, *self.stack])


def is_return(item):
    """True for a return of a stack."""
    return type(item) is tuple and item != () and item[0] == "point"


def turn_engine(code, room, deep, plan, state):
    """The machine of a code that stands in a state."""
    engine = TurnEngine(code, room, deep, plan)
    engine.point, engine.value, window, stack, engine.winds, heap, engine.inputs, output, engine.made = state
    engine.window = list(window)
    engine.stack = list(stack)
    engine.cells = TurnHeap(heap)
    engine.output = list(output)
    return engine


def turn_state(engine):
    """The state in which a machine stands."""
    window = tuple(engine.window)
    stack = tuple(engine.stack)
    output = tuple(engine.output)
    heap = engine.cells.plain()
    return (engine.point, engine.value, window, stack, engine.winds, heap, engine.inputs, output, engine.made)
