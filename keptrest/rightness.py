"""Which states are right for a sound code."""

from keptrest.heap import cells_of, is_address
from keptrest.rowneeds import VALUE_BIT, need_masks, needs_value, slots_needed
from keptrest.stackstates import split_stack

WORDS_OF_FRAMES = {"began": 3, "inside": 0, "ended": 1, "leaving": 2, "entering": 3}


def needs_at(code, point):
    """The needs of a point or of "back", as a mask."""
    return VALUE_BIT if point == "back" else need_masks(code)[point]


def needed_roots(mask, state):
    """The needed words of a state, its stack and WINDS, as roots."""
    value = (state[1],) if needs_value(mask) else ()
    return (*value, *[state[2][slot] for slot in slots_needed(mask)], *state[3], state[4])


def is_word(value):
    """True for what a state has where a word may stand, if it is a word."""
    return value not in (("none",), ("gone",))


class Rightness:
    """Looks whether a state of a code is right."""

    def __init__(self, code, state):
        self.code = code
        self.standing = state
        self.cells = {cell[0]: cell for cell in cells_of(state[5])}
        pushes = [row for row in code[0] if row[0] == "push"]
        self.pushed = {(row[1], len(row[2])): True for row in pushes}
        makes = [row for row in code[0] if row[0] == "make" and row[1] == ("fn",)]
        self.fns = {(row[2], len(row[3])): True for row in makes}

    def leads_to(self, word, kind):
        """True for the address of a cell of this KIND."""
        return is_address(word) and word[1] in self.cells and self.cells[word[1]][1] == kind

    def is_winds(self, word):
        return word == () or self.leads_to(word, "wind")

    def has_needed(self):
        """True if VALUE and the slots that are needed hold words."""
        mask = needs_at(self.code, self.standing[0])
        window = self.standing[2]
        if needs_value(mask) and not is_word(self.standing[1]):
            return False
        return all([slot < len(window) and is_word(window[slot]) for slot in slots_needed(mask)])

    def is_frame(self, back, words):
        """True for a frame that a run may have, as far as its words tell."""
        if len(back) == 2:
            return (back[1], len(words)) in self.pushed
        if len(words) != WORDS_OF_FRAMES[back[1]]:
            return False
        if back[1] in ("leaving", "entering") and not self.leads_to(words[0], "kept"):
            return False
        return back[1] != "entering" or self.leads_to(words[2], "wind")

    def is_stack(self, stack):
        """True if a stack consists of such frames."""
        frames = split_stack(stack)
        if sum([1 + len(words) for _, words in frames]) != len(stack):
            return False
        return all([self.is_frame(back, words) for back, words in frames])

    def is_cell(self, cell):
        """True if a cell has what its KIND asks for."""
        _, kind, data, parts = cell
        if kind == "wind":
            return self.is_winds(parts[2])
        if kind == "kept":
            return self.is_winds(parts[0]) and self.is_stack(parts[1:])
        return kind != "fn" or (data, len(parts)) in self.fns

    def has_headers(self):
        """True if all addresses are those of headers."""
        words = [self.standing[1], self.standing[4], *self.standing[2], *self.standing[3]]
        for cell in self.cells.values():
            words.extend(cell[3])
        return all([word[1] in self.cells for word in words if is_address(word)])

    def rests_end(self):
        """True if following RESTs from each wind ends; all RESTs are those of winds."""
        ended = {}
        for number, cell in self.cells.items():
            row = {}
            while cell[1] == "wind" and number not in ended:
                if number in row:
                    return False
                row[number] = True
                rest = cell[3][2]
                if rest == ():
                    break
                number = rest[1]
                cell = self.cells[number]
            ended.update(row)
        return True

    def holds(self):
        if not self.has_headers() or not self.has_needed():
            return False
        if not self.is_winds(self.standing[4]) or not self.is_stack(self.standing[3]):
            return False
        return all([self.is_cell(cell) for cell in self.cells.values()]) and self.rests_end()


def state_is_right(code, state):
    """True if a state is right for a sound code."""
    return Rightness(code, state).holds()
