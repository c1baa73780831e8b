"""Heaps: their cells, sizes, and what is reached in them."""


def is_address(word):
    """True for the address of a cell."""
    return type(word) is tuple and len(word) == 2 and word[0] == "at"


def cells_of(heap):
    """The cells (number, KIND, DATA, ITEMS) of a heap, in order."""
    cells = []
    number = 0
    while number < len(heap):
        _, kind, data, count = heap[number]
        end = number + 1 + count
        cells.append((number, kind, data, tuple(heap[number + 1:end])))
        number = end
    return tuple(cells)


def cell_size(kind, count):
    """The size of a cell of this KIND with so many items."""
    return count + 1 if kind in ("fn", "kept") else count


def used_words(heap):
    """The sum of the sizes of the cells of a heap."""
    return sum([cell_size(kind, len(parts)) for _, kind, _, parts in cells_of(heap)])


def reached_cells(roots, heap):
    """The numbers of the cells that are reached from roots, in met order."""
    found = {}
    met = []
    waiting = roots
    at = 0
    while True:
        for word in waiting:
            if is_address(word) and word[1] not in found:
                found[word[1]] = True
                met.append(word[1])
        if at == len(met):
            return tuple(met)
        number = met[at]
        at += 1
        waiting = heap[number + 1:number + 1 + heap[number][3]]


def reached_words(roots, heap):
    """The sum of the sizes of the cells that are reached from roots."""
    headers = [heap[number] for number in reached_cells(roots, heap)]
    return sum([cell_size(header[1], header[3]) for header in headers])


def new_cell(heap, kind, data, items):
    """The heap with a cell behind it, and the cell's address."""
    header = ("cell", kind, data, len(items))
    return ((*heap, header, *items), ("at", len(heap)))
