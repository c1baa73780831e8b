"""Core programs as flat lists of their nodes in writing order, while they are made.

A list has pairs (HEAD, SOURCE). A head is a node of a core term without its parts; a call and a prim tell how many
there are. What a source is, is for the one who makes the list.
"""

from keptrest.terms import parts_of

PARTS = {"const": 0, "var": 0, "set": 1, "if": 3, "fn": 1, "let": 2, "seq": 2}


def parts_wanted(head):
    """How many parts a head has."""
    if head[0] == "call":
        return head[1] + 1
    return head[2] if head[0] == "prim" else PARTS[head[0]]


def head_of(term):
    """The head of a core term."""
    kind = term[0]
    if kind == "call":
        return (kind, len(term[2]))
    if kind == "prim":
        return (kind, term[1], len(term[2]))
    if kind in ("if", "seq"):
        return (kind,)
    return term if kind in ("const", "var") else term[:len(term) - len(parts_of(term))]


def places_of_heads(emitted):
    """The places of the nodes of a list."""
    places = []
    waiting = [()]
    for head, _ in emitted:
        place = waiting.pop()
        places.append(place)
        for k in range(parts_wanted(head) - 1, -1, -1):
            waiting.append(place + (k,))
    return places


def deepest(emitted):
    """The length of the longest place."""
    most = 0
    waiting = [0]
    for head, _ in emitted:
        depth = waiting.pop()
        most = max(most, depth)
        waiting.extend([depth + 1] * parts_wanted(head))
    return most


def plain_numbers(emitted):
    """The dict that leads the numbers that are bound to plain ones."""
    moved = {}
    for head, _ in emitted:
        if head[0] == "let":
            moved[head[1]] = len(moved)
        elif head[0] == "fn":
            for number in head[1]:
                moved[number] = len(moved)
            if head[2] is not None:
                moved[head[2]] = len(moved)
    return moved


def term_of(head, parts, moved):
    """The core term of a head with its parts and with plain numbers."""
    kind = head[0]
    if kind in ("var", "set", "let"):
        return (kind, moved[head[1]], *parts)
    if kind == "fn":
        rest = None if head[2] is None else moved[head[2]]
        return (kind, tuple([moved[number] for number in head[1]]), rest, *parts)
    if kind == "call":
        return (kind, parts[0], tuple(parts[1:]))
    if kind == "prim":
        return (kind, head[1], tuple(parts))
    return head if kind == "const" else (kind, *parts)


def built(emitted, moved):
    """The core program of a list, its numbers led by a dict."""
    made = []
    for head, _ in reversed(emitted):
        parts = [made.pop() for _ in range(parts_wanted(head))]
        made.append(term_of(head, parts, moved))
    return made[0]
