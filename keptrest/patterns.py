"""Patterns: what is wrong in them, their names, and what they match."""

from keptrest.nodes import Fixed, Row, Word, is_spelled, parts_of_node, row_of
from keptrest.sameness import same_data

REPEAT = "&"
ANYTHING = "_"


def is_repeat(node):
    """True for the word that repeats what stands ahead of it."""
    return is_spelled(node, REPEAT)


def is_pattern_name(node, literals):
    """True for a word of a right pattern that is one of its names."""
    return isinstance(node, Word) and node.key not in literals and node.letters != ANYTHING


class PatternCheck:
    """Looks for the first wrong datum of a pattern; literals is a dict of keys."""

    def __init__(self, literals):
        self.literals = literals
        self.names = {}

    def wrong_word(self, node):
        """True for a repeat where none may stand, and for a name that stands twice."""
        if is_repeat(node):
            return True
        if not is_pattern_name(node, self.literals):
            return False
        if node.key in self.names:
            return True
        self.names[node.key] = True
        return False

    def wrong(self, node):
        """The first wrong datum of a pattern; None if it is right."""
        if isinstance(node, Word):
            return node if self.wrong_word(node) else None
        return self.wrong_in(node, 0) if isinstance(node, Row) else None

    def wrong_in(self, row, begin):
        """The first wrong datum of a list from an item on, ahead of which nothing may be repeated."""
        repeated = False
        for k in range(begin, len(row.parts)):
            part = row.parts[k]
            if is_repeat(part) and k > begin and not repeated:
                repeated = True
                continue
            found = self.wrong(part)
            if found is not None:
                return found
        return self.wrong(row.tail)


def pattern_fault(literals, pattern):
    """The first wrong datum of a whole PATTERN; None if it is right."""
    if not isinstance(pattern, Row):
        return pattern
    return PatternCheck(literals).wrong_in(pattern, 1)


def pattern_items(row):
    """The items of a right pattern's list ahead of, at and behind the repeated one, or None for that."""
    for k, part in enumerate(row.parts):
        if k > 0 and is_repeat(part):
            return row.parts[:k - 1], row.parts[k - 1], row.parts[k + 1:]
    return row.parts, None, ()


def items_from(row, begin):
    """A list's items from one on, as pairs (ITEM, 1 if it is repeated or else 0)."""
    found = []
    parts = row.parts
    for k in range(begin, len(parts)):
        if is_repeat(parts[k]):
            continue
        repeated = k + 1 < len(parts) and is_repeat(parts[k + 1])
        found.append((parts[k], 1 if repeated else 0))
    return found


def names_in(literals, node, depth):
    """The pairs (WORD NODE, DEPTH) of a pattern that stands in so many repeated items."""
    if isinstance(node, Row):
        return names_from(literals, node, 0, depth)
    return [(node, depth)] if is_pattern_name(node, literals) else []


def names_from(literals, row, begin, depth):
    """The pairs (WORD NODE, DEPTH) of a pattern's list from an item on."""
    found = []
    for part, more in items_from(row, begin):
        found.extend(names_in(literals, part, depth + more))
    return found + names_in(literals, row.tail, depth)


class Matcher:
    """Matches a pattern; is_like(LITERAL, WORD) tells whether a word is like a literal."""

    def __init__(self, literals, is_like):
        self.literals = literals
        self.is_like = is_like
        self.liked = []

    def matches(self, pattern, node, found):
        """True if a pattern matches; what its names match is put into a dict."""
        waiting = [(pattern, node)]
        while waiting:
            one, part = waiting.pop()
            if not isinstance(one, Row):
                if not self.matches_leaf(one, part, found):
                    return False
                continue
            below = self.pairs_below(one, part, found)
            if below is None:
                return False
            waiting.extend(below)
        return True

    def matches_leaf(self, pattern, node, found):
        """True if a pattern that is no list matches."""
        if isinstance(pattern, Fixed):
            return isinstance(node, Fixed) and same_data(pattern.value, node.value)
        if pattern.key in self.literals:
            return self.matches_literal(pattern, node)
        if pattern.letters != ANYTHING:
            found[pattern.key] = node
        return True

    def matches_literal(self, pattern, node):
        is_like = self.is_like
        if not isinstance(node, Word) or not is_like(pattern, node):
            return False
        self.liked.append(node)
        return True

    def pairs_below(self, pattern, node, found):
        """The pairs (PATTERN, NODE) in a list that are still to be matched; None if it does not match."""
        ahead, repeated, behind = pattern_items(pattern)
        parts, tail = parts_of_node(node)
        first = len(ahead)
        last = len(parts) - len(behind)
        if last < first:
            return None
        pairs = list(zip(ahead, parts[:first]))
        if repeated is None:
            return pairs + [(pattern.tail, rest_of(node, first))]
        if not self.matches_turns(repeated, parts[first:last], found):
            return None
        pairs.extend(list(zip(behind, parts[last:])))
        return pairs + [(pattern.tail, tail)]

    def matches_turns(self, repeated, nodes, found):
        """True if a repeated item matches each node; its names match tuples."""
        turns = []
        for node in nodes:
            turn = {}
            if not self.matches(repeated, node, turn):
                return False
            turns.append(turn)
        for name, _ in names_in(self.literals, repeated, 0):
            found[name.key] = tuple([turn[name.key] for turn in turns])
        return True


def rest_of(node, first):
    """What is left of a node behind its first items; a list that is left has the path of the node."""
    parts, tail = parts_of_node(node)
    return row_of(parts[first:], tail, node.path)


def match_of(matcher, pattern, node):
    """The dict of what the names of a whole PATTERN match; None if it does not match."""
    found = {}
    head = Word(ANYTHING, ANYTHING, (), ())
    whole = Row((head, *pattern.parts[1:]), pattern.tail, pattern.path)
    return found if matcher.matches(whole, node, found) else None
