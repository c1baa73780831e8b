"""A heap in turns: the old cells, and the new ones to which they are brought bit by bit."""

from keptrest.heap import cell_size, cells_of, is_address


def is_old(word):
    """True for the address of an old cell."""
    return type(word) is tuple and len(word) == 2 and word[0] == "old"


def is_gone(item):
    """True for what stands in the place of a header whose cell was copied."""
    return type(item) is tuple and len(item) == 2 and item[0] == "gone"


def is_header(item):
    return type(item) is tuple and len(item) == 4 and item[0] == "cell"


def made_old(item):
    """An item of a new cell as it is when the cell becomes an old one."""
    return ("old", item[1]) if is_address(item) else item


class TurnHeap:
    """A heap in turns that is changed; words counts the sizes of the new cells and of those old ones not gone."""

    def __init__(self, heap):
        old, new, scan = heap
        self.old = list(old)
        self.new = list(new)
        self.scan = scan
        self.old_words = sum([cell_size(item[1], item[3]) for item in old if is_header(item)])
        self.new_words = sum([cell_size(kind, len(parts)) for _, kind, _, parts in cells_of(new)])

    def plain(self):
        """The heap as a tuple."""
        return (tuple(self.old), tuple(self.new), self.scan)

    def all_words(self):
        """The sizes of the new cells and of the old ones that are not gone, together."""
        return self.old_words + self.new_words

    def bring(self, word):
        """The word brought: that of a cell among the new ones."""
        if not is_old(word):
            return word
        number = word[1]
        header = self.old[number]
        if is_gone(header):
            return ("at", header[1])
        place = len(self.new)
        self.new.extend(self.old[number:number + 1 + header[3]])
        self.old[number] = ("gone", place)
        size = cell_size(header[1], header[3])
        self.old_words -= size
        self.new_words += size
        return ("at", place)

    def bring_item(self, number):
        """The item number so many of the new cells, brought in its place."""
        word = self.bring(self.new[number])
        self.new[number] = word
        return word

    def begin_flip(self):
        """The new cells become the old ones; no root has been brought yet."""
        self.old = [made_old(item) for item in self.new]
        self.new = []
        self.scan = 0
        self.old_words = self.new_words
        self.new_words = 0

    def bring_root(self, word):
        """A root of a flip, brought."""
        return self.bring(made_old(word))

    def drop_old(self):
        """Leaves the old cells, of which none is needed any more."""
        self.old = []
        self.old_words = 0

    def end_flip(self):
        """If no root led to a cell, nothing is left to bring."""
        if not self.new:
            self.drop_old()

    def turn(self):
        """Brings the items of the next cell, if there is one."""
        if self.scan != len(self.new):
            end = self.scan + 1 + self.new[self.scan][3]
            for number in range(self.scan + 1, end):
                self.bring_item(number)
            self.scan = end
        if self.scan == len(self.new):
            self.drop_old()

    def put(self, kind, data, words):
        """The address of a cell that is put behind the new ones."""
        place = len(self.new)
        self.new.append(("cell", kind, data, len(words)))
        self.new.extend(words)
        self.new_words += cell_size(kind, len(words))
        return ("at", place)
