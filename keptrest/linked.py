"""The linked machine: its steps and runs, and how its states go with those of the one with a stack in one block."""

from keptrest.collect import Pairing
from keptrest.heap import reached_cells
from keptrest.linkengine import first_link_engine, link_engine, link_state
from keptrest.rightness import needed_roots, needs_at
from keptrest.rowsteps import OPEN, take_row, take_rows
from keptrest.sameness import same_data


def linked_begin(code, inputs):
    """The first state."""
    return (code[3], ("none",), (), (), (), (), inputs, (), 0)


def linked_step(code, room, schedule, state):
    """("on", STATE) with the next state, or ("ended", ENDING, OUTPUT)."""
    engine = link_engine(code, room, schedule, state)
    ending = take_row(engine)
    if ending is not None:
        return ("ended", ending, tuple(engine.output))
    return ("on", link_state(engine))


def linked_run(code, inputs, room, schedule, steps):
    """(ENDING, OUTPUT, COUNT, MAKINGS, WORDS) of a run of at most so many steps."""
    engine = first_link_engine(code, room, schedule, inputs)
    engine.measure()
    ending, count = take_rows(engine, steps)
    words = [weight + size for weight, size in zip(engine.lives.weights(), engine.sizes)]
    return (ending, tuple(engine.output), count, engine.made, max(words, default=0))


def linked_after(code, inputs, room, schedule, steps):
    """The state behind so many steps; None if the run has ended by then."""
    engine = first_link_engine(code, room, schedule, inputs)
    return link_state(engine) if take_rows(engine, steps)[0] == OPEN else None


def unlinked(heap, link):
    """The unlinked stack of a LINK."""
    frames = []
    while link != ():
        number = link[1]
        _, _, back, count = heap[number]
        frames.append((*heap[number + 1:number + count], back))
        link = heap[number + count]
    stack = []
    for frame in reversed(frames):
        stack.extend(list(frame))
    return tuple(stack)


def parts_of_cell(heap, number):
    """The items of a cell of the machine with a stack in one block."""
    return heap[number + 1:number + 1 + heap[number][3]]


def parts_of_linked(heap, number):
    """The items that a cell of a linked machine would have in the other one."""
    parts = parts_of_cell(heap, number)
    return (parts[0], *unlinked(heap, parts[1])) if heap[number][1] == "kept" else parts


def are_like_cells(header, other):
    """True for cells of one KIND and, but for kept ones, the same DATA and k."""
    if header[1] == "kept":
        return other[1] == "kept"
    return same_data(header, other)


def linked_roots(mask, linked):
    """The needed words of a linked state, its unlinked stack and WINDS."""
    return needed_roots(mask, (*linked[:3], unlinked(linked[5], linked[3]), linked[4]))


def link_map(code, state, linked):
    """The map between two states that are linked to each other; None if they are not."""
    if not same_data((state[0], state[6], state[7]), (linked[0], linked[6], linked[7])):
        return None
    mask = needs_at(code, state[0])
    heap, other = state[5], linked[5]
    pairing = Pairing()
    if not pairing.join_words(needed_roots(mask, state), linked_roots(mask, linked)):
        return None
    at = 0
    while at < len(pairing.order):
        one = pairing.order[at]
        two = pairing.forth[one]
        if not are_like_cells(heap[one], other[two]):
            return None
        if not pairing.join_words(parts_of_cell(heap, one), parts_of_linked(other, two)):
            return None
        at += 1
    return pairing.all_pairs()


def reached_linked(code, linked):
    """The numbers of the cells that are reached from the needed words of a linked state, LINK and WINDS."""
    mask = needs_at(code, linked[0])
    return reached_cells(needed_roots(mask, (*linked[:3], linked[3:4], linked[4])), linked[5])


def linked_size(header):
    """The size of a cell of a linked machine."""
    return header[3] + 1 if header[1] == "fn" else header[3]


def linked_words(code, linked):
    """The sum of the sizes of the cells that a linked state reaches."""
    return sum([linked_size(linked[5][number]) for number in reached_linked(code, linked)])


def chain_length(heap, link, lengths):
    """The length of the unlinked stack of a LINK; lengths are kept by the numbers of frames."""
    row = []
    while link != () and link[1] not in lengths:
        row.append(link[1])
        link = heap[link[1] + heap[link[1]][3]]
    length = 0 if link == () else lengths[link[1]]
    for number in reversed(row):
        length += heap[number][3]
        lengths[number] = length
    return length


def shared_words(code, linked):
    """The shared words of a linked state."""
    heap = linked[5]
    numbers = reached_linked(code, linked)
    links = [linked[3]] + [heap[number + 2] for number in numbers if heap[number][1] == "kept"]
    lengths = {}
    total = sum([chain_length(heap, link, lengths) for link in links])
    return total - sum([heap[number][3] for number in numbers if heap[number][1] == "frame"])
