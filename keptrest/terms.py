"""Parts, binders and numbers of core terms."""


def parts_of(term):
    """The children of a term."""
    kind = term[0]
    if kind in ("if", "seq"):
        return term[1:]
    if kind == "call":
        return (term[1], *term[2])
    if kind == "prim":
        return term[2]
    if kind == "let":
        return term[2:]
    if kind == "fn":
        return term[3:]
    return term[2:] if kind == "set" else ()


def with_parts(term, parts):
    """The term with other children, as many as it has."""
    kind = term[0]
    if kind in ("if", "seq"):
        return (kind, *parts)
    if kind == "call":
        return (kind, parts[0], tuple(parts[1:]))
    if kind == "prim":
        return (kind, term[1], tuple(parts))
    if kind in ("let", "set"):
        return (kind, term[1], *parts)
    return (kind, term[1], term[2], *parts) if kind == "fn" else term


def own_binders(term):
    """The numbers that the term itself binds, in writing order."""
    if term[0] == "let":
        return (term[1],)
    if term[0] == "fn":
        return term[1] if term[2] is None else (*term[1], term[2])
    return ()


def binding_child(term):
    """The number of the child in which a fn or a let binds."""
    return 0 if term[0] == "fn" else 1


def standing_number(term):
    """The number that stands in a var or a set; None in other terms."""
    return term[1] if term[0] in ("var", "set") else None


def placed_nodes(term):
    """All pairs (PLACE, TERM), in writing order."""
    nodes = []
    waiting = [((), term)]
    while waiting:
        place, part = waiting.pop()
        nodes.append((place, part))
        children = parts_of(part)
        for k in range(len(children) - 1, -1, -1):
            waiting.append((place + (k,), children[k]))
    return nodes


def nodes_of(term):
    """All terms in a term, in writing order."""
    nodes = []
    waiting = [term]
    while waiting:
        part = waiting.pop()
        nodes.append(part)
        waiting.extend(parts_of(part)[::-1])
    return nodes


def all_binders(term):
    """The binders of a term, in writing order, as often as they are bound."""
    found = []
    for part in nodes_of(term):
        found.extend(own_binders(part))
    return tuple(found)


def is_counted(numbers):
    """True if the numbers are 0, 1, 2, .."""
    return all([number == k for k, number in enumerate(numbers)])


def child_tasks(term):
    """What a walk that minds scopes does behind a term, the last thing first.

    ("visit", CHILD, NUMBER OF THE CHILD), and ("bind", NUMBERS, ..) and ("leave", NUMBERS, ..) around it.
    """
    children = parts_of(term)
    numbers = own_binders(term)
    tasks = []
    for k in range(len(children) - 1, -1, -1):
        binds = numbers != () and k == binding_child(term)
        if binds:
            tasks.append(("leave", numbers, k))
        tasks.append(("visit", children[k], k))
        if binds:
            tasks.append(("bind", numbers, k))
    return tasks


def free_in(term):
    """The free numbers of a term, ascending."""
    free = {}
    bound = {}
    waiting = [("visit", term, 0)]
    while waiting:
        word, thing, _ = waiting.pop()
        if word == "visit":
            number = standing_number(thing)
            if number is not None and bound.get(number, 0) == 0:
                free[number] = True
            waiting.extend(child_tasks(thing))
            continue
        for number in thing:
            bound[number] = bound.get(number, 0) + (1 if word == "bind" else -1)
    return tuple(sorted(list(free)))


def set_numbers(term):
    """The numbers for which a set stands in a term, ascending."""
    found = {part[1]: True for part in nodes_of(term) if part[0] == "set"}
    return tuple(sorted(list(found)))
