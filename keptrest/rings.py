"""Rings of leads from node to node."""


def targets_of(leads):
    """The dict from each node of some leads to the nodes to which it leads."""
    targets = {}
    for one, other in leads:
        targets.setdefault(one, []).append(other)
        targets.setdefault(other, [])
    return targets


def order_of_leaving(targets):
    """The nodes in the order in which a walk that goes as deep as it can leaves them for good."""
    begun = {}
    left = []
    for start in list(targets):
        waiting = [(start, 0)]
        while waiting:
            node, at = waiting.pop()
            if at == 0 and node in begun:
                continue
            begun[node] = True
            if at == len(targets[node]):
                left.append(node)
            else:
                waiting.append((node, at + 1))
                waiting.append((targets[node][at], 0))
    return left


def group_of(start, targets, grouped):
    """The nodes reached from a node that are in no group yet; puts them into one."""
    group = []
    waiting = [start]
    while waiting:
        node = waiting.pop()
        if node not in grouped:
            grouped[node] = True
            group.append(node)
            waiting.extend(targets[node])
    return group


def nodes_on_rings(leads):
    """The nodes that lead back to themselves, at once or through others."""
    targets = targets_of(leads)
    back = targets_of([(other, one) for one, other in leads])
    grouped = {}
    found = []
    for node in reversed(order_of_leaving(targets)):
        group = group_of(node, back, grouped)
        if len(group) > 1 or node in targets[node]:
            found.extend(group)
    return found
