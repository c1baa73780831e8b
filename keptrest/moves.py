"""How the words of environments and frames move from node to node as the meaning goes on.

Words may be anything: what stands for the values of names. A frame is (KIND, SPOT, j, WORDS), its words those of
its done children and then those of its names, ascending; what comes next is (SPOT, WORDS), for its free names.
"""

from keptrest.spots import bits_of, free_numbers_of, mask_of


def chosen(words, picks):
    """The words at some places of a row of words."""
    return tuple([words[k] for k in picks])


def picks_from(have, wanted):
    """The places of the wanted numbers among those that are there."""
    places = {number: k for k, number in enumerate(have)}
    return tuple([places[number] for number in wanted])


def later_numbers(spot, child):
    """The numbers whose words a frame keeps while a child of a node is evaluated, ascending."""
    key = ("later", child)
    if key not in spot.moves:
        mask = 0
        for part in spot.below[child + 1:]:
            mask |= part.unbound
        if spot.kind == "let":
            mask &= ~mask_of([spot.node[1]])
        spot.moves[key] = bits_of(mask)
    return spot.moves[key]


def frame_size(spot, kind, child):
    """How many words a frame of this kind has while a child of a node is evaluated."""
    return 1 if kind == "set" else child + len(later_numbers(spot, child))


def picks_at(spot, child):
    """For the words of the names ahead of a child: the places of those kept, and of those in the child."""
    key = ("picks", child)
    if key not in spot.moves:
        have = free_numbers_of(spot) if child == 0 else later_numbers(spot, child - 1)
        kept = picks_from(have, later_numbers(spot, child))
        spot.moves[key] = (kept, picks_from(have, free_numbers_of(spot.below[child])))
    return spot.moves[key]


def frame_kind(spot):
    """The kind of the frames of a node."""
    return "args" if spot.kind in ("call", "prim") else spot.kind


def entered(spot, words):
    """The frame that is pushed when a node with children, but no fn, is evaluated, and what comes next."""
    kept, inner = picks_at(spot, 0)
    if spot.kind == "set":
        held = (words[free_numbers_of(spot).index(spot.node[1])],)
    else:
        held = chosen(words, kept)
    return (frame_kind(spot), spot, 0, held), (spot.below[0], chosen(words, inner))


def is_last(frame):
    """True for a frame "args" whose last child is evaluated."""
    return frame[2] + 1 == len(frame[1].below)


def next_argument(frame, word):
    """The frame "args" with one more child done, which is not the last one, and what comes next."""
    kind, spot, done, words = frame
    kept, inner = picks_at(spot, done + 1)
    env = words[done:]
    return (kind, spot, done + 1, (*words[:done], word, *chosen(env, kept))), (spot.below[done + 1], chosen(env, inner))


def after_let(frame, word):
    """What comes behind a frame "let" if its name has this word."""
    _, spot, _, words = frame
    body = spot.below[1]
    numbers = free_numbers_of(body)
    number = spot.node[1]
    if number not in numbers:
        return (body, words)
    at = numbers.index(number)
    return (body, (*words[:at], word, *words[at:]))


def after_test(frame, child):
    """What comes behind a frame "if" if it goes on with this child."""
    _, spot, _, words = frame
    key = ("branch", child)
    if key not in spot.moves:
        spot.moves[key] = picks_from(later_numbers(spot, 0), free_numbers_of(spot.below[child]))
    return (spot.below[child], chosen(words, spot.moves[key]))


def after_seq(frame):
    """What comes behind a frame "seq"."""
    return (frame[1].below[1], frame[3])
