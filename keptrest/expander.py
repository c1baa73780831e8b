"""Source programs to core programs, and where the words and nodes come from."""

from keptrest.errors import NotThere, TooGreat
from keptrest.heads import built, deepest, places_of_heads, plain_numbers
from keptrest.nodes import node_of, words_in
from keptrest.topforms import expand

MOST_NODES = 400
DEEPEST = 60


def checked(program):
    """The expansion of a program whose core program is not too great."""
    expansion = expand(program)
    if len(expansion.emitted) > MOST_NODES:
        raise TooGreat("nodes")
    if deepest(expansion.emitted) > DEEPEST:
        raise TooGreat("depth")
    return expansion


def expanded(program, order):
    """The core program; it does not hang on the order of turns."""
    emitted = checked(program).emitted
    return built(emitted, plain_numbers(emitted))


def uses_in(program):
    """How many uses are expanded in all."""
    return checked(program).uses


def places_back(program):
    """The pairs (PLACE, PATH) of a core program, in writing order."""
    emitted = checked(program).emitted
    paths = [path for _, path in emitted]
    return tuple(list(zip(places_of_heads(emitted), paths)))


def program_words(program):
    """The words of a program, by their paths, ascending."""
    words = []
    for k, datum in enumerate(program):
        words.extend(words_in(node_of(datum, (k,))))
    return words


def word_fates(program):
    """The pairs (PATH, FATES) of all words of a program, paths ascending."""
    expansion = checked(program)
    moved = plain_numbers(expansion.emitted)
    found = []
    for word in program_words(program):
        fates = []
        for fate in list(expansion.fates.of_spot.get(word.spot, {})):
            fates.append((fate[0], moved[fate[1]]) if len(fate) == 2 else fate)
        found.append((word.spot, tuple(sorted(fates))))
    return tuple(found)


def numbers_in(fates):
    """The core names that fates tell of."""
    return [fate[1] for fate in fates if len(fate) == 2]


def paths_of_numbers(fated):
    """The paths of the words that have a fate with a core name, by its number."""
    found = {}
    for path, fates in fated:
        for number in numbers_in(fates):
            if number not in found:
                found[number] = []
            found[number].append(path)
    return found


def lot_in(fated, path):
    """The lot of a path, from the fates of all words as a tuple of pairs."""
    fates_of = {other: fates for other, fates in fated}
    if path not in fates_of:
        raise NotThere(path)
    paths_of = paths_of_numbers(fated)
    lot = {path: True}
    waiting = [path]
    while waiting:
        for number in numbers_in(fates_of[waiting.pop()]):
            others = paths_of.pop(number, [])
            for other in others:
                if other not in lot:
                    lot[other] = True
                    waiting.append(other)
    return tuple(sorted(list(lot)))


def lot_of(program, path):
    """The lot of the word at a path, ascending."""
    return lot_in(word_fates(program), path)


def is_clean(program, path):
    """True if the lot of the word at a path is clean."""
    fated = word_fates(program)
    lot = {other: True for other in lot_in(fated, path)}
    found = []
    for other, fates in fated:
        if other in lot:
            found.extend(fates)
    return len(found) > 0 and all([fate[0] in ("binds", "refers") for fate in found])


def with_word(datum, path, paths, word):
    """A datum that stands at a path, with a word at some paths, a dict."""
    if type(datum) is not tuple or datum == ():
        return datum
    if datum[0] == "name":
        return ("name", word) if path in paths else datum
    parts = [with_word(part, path + (k,), paths, word) for k, part in enumerate(datum[1])]
    tail = with_word(datum[2], path + (len(parts),), paths, word)
    return ("list", tuple(parts), tail)


def renamed(program, paths, word):
    """The program with a word at these paths."""
    standing = {other.spot: True for other in program_words(program)}
    for path in paths:
        if path not in standing:
            raise NotThere(path)
    wanted = {path: True for path in paths}
    return tuple([with_word(datum, (k,), wanted, word) for k, datum in enumerate(program)])
