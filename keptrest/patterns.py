"""Patterns: what is wrong in them, their names, and what they match."""

from itertools import chain

from keptrest.nodes import Fixed, Row, Word, is_spelled, parts_of_node, row_of

REPEAT = "&"
ANYTHING = "_"


def is_repeat(node):
    """True for the word that repeats what stands ahead of it."""
    return is_spelled(node, REPEAT)


def is_pattern_name(node, literals):
    """True for a word of a right pattern that is one of its names."""
    return isinstance(node, Word) and node.key not in literals and node.letters != ANYTHING


class PatternCheck:
    """Looks for the first wrong datum of a pattern; literals is a dict of keys."""

    def __init__(self, literals):
        self.literals = literals
        self.names = {}

    def wrong_word(self, node):
        """True for a repeat where none may stand, and for a name that stands twice."""
        if is_repeat(node):
            return True
        if not is_pattern_name(node, self.literals):
            return False
        if node.key in self.names:
            return True
        self.names[node.key] = True
        return False

    def wrong(self, node):
        """The first wrong datum of a pattern; None if it is right."""
        if isinstance(node, Word):
            return node if self.wrong_word(node) else None
        return self.wrong_in(node, 0) if isinstance(node, Row) else None

    def wrong_in(self, row, begin):
        """The first wrong datum of a list from an item on, ahead of which nothing may be repeated."""
        repeated = False
        for k in range(begin, len(row.parts)):
            part = row.parts[k]
            if is_repeat(part) and k > begin and not repeated:
                repeated = True
                continue
            found = self.wrong(part)
            if found is not None:
                return found
        return self.wrong(row.tail)


def pattern_fault(literals, pattern):
    """The first wrong datum of a whole PATTERN; None if it is right."""
    if not isinstance(pattern, Row):
        return pattern
    return PatternCheck(literals).wrong_in(pattern, 1)


def pattern_items(row):
    """The items of a right pattern's list ahead of, at and behind the repeated one, or None for that."""
    if row.pattern_parts is None:
        row.pattern_parts = cut_at_repeat(row.parts)
    return row.pattern_parts


def cut_at_repeat(parts):
    for k, part in enumerate(parts):
        if k > 0 and is_repeat(part):
            return parts[:k - 1], parts[k - 1], parts[k + 1:]
    return parts, None, ()


def items_from(row, begin):
    """A list's items from one on, as pairs (ITEM, 1 if it is repeated or else 0)."""
    found = []
    parts = row.parts
    for k in range(begin, len(parts)):
        if is_repeat(parts[k]):
            continue
        repeated = k + 1 < len(parts) and is_repeat(parts[k + 1])
        found.append((parts[k], 1 if repeated else 0))
    return found


def names_in(literals, node, depth):
    """The pairs (WORD NODE, DEPTH) of a pattern that stands in so many repeated items."""
    if isinstance(node, Row):
        return names_from(literals, node, 0, depth)
    return [(node, depth)] if is_pattern_name(node, literals) else []


def names_from(literals, row, begin, depth):
    """The pairs (WORD NODE, DEPTH) of a pattern's list from an item on."""
    found = []
    for part, more in items_from(row, begin):
        found.extend(names_in(literals, part, depth + more))
    return found + names_in(literals, row.tail, depth)


def is_same_fixed(pattern, node):
    """True for a node that is the same constant as a pattern."""
    return isinstance(node, Fixed) and type(node.value) is type(pattern.value) and node.value == pattern.value


class Matcher:
    """Matches a pattern; is_like(LITERAL, WORD) tells whether a word is like a literal."""

    def __init__(self, literals, is_like):
        self.literals = literals
        self.is_like = is_like
        self.liked = []

    def matches(self, pattern, node, found):
        """True if a pattern matches; what its names match is put into a dict."""
        if isinstance(pattern, Row):
            return self.matches_row(pattern, node, found)
        return self.matches_leaf(pattern, node, found)

    def matches_leaf(self, pattern, node, found):
        """True if a pattern that is no list matches."""
        if isinstance(pattern, Fixed):
            return is_same_fixed(pattern, node)
        if pattern.key in self.literals:
            return self.matches_literal(pattern, node)
        if pattern.letters != ANYTHING:
            found[pattern.key] = node
        return True

    def matches_literal(self, pattern, node):
        is_like = self.is_like
        if not isinstance(node, Word) or not is_like(pattern, node):
            return False
        self.liked.append(node)
        return True

    def matches_each(self, patterns, nodes, found):
        """True if patterns match nodes, one for one, as far as both go."""
        for pattern, node in zip(patterns, nodes):
            if not self.matches(pattern, node, found):
                return False
        return True

    def matches_row(self, pattern, node, found):
        """True if a list of patterns matches; what takes longest, the repeated item, is looked at last."""
        ahead, repeated, behind = pattern_items(pattern)
        parts, tail = parts_of_node(node)
        first = len(ahead)
        last = len(parts) - len(behind)
        if last < first or (repeated is None and last > first and isinstance(pattern.tail, Fixed)):
            return False
        if not self.matches_each(ahead, parts, found):
            return False
        if repeated is None:
            return self.matches(pattern.tail, rest_of(node, first), found)
        if not self.matches_each(behind, parts[last:], found) or not self.matches(pattern.tail, tail, found):
            return False
        return self.matches_turns(repeated, parts[first:last], found)

    def matches_turns(self, pattern, nodes, found):
        """True if a pattern matches each node; its names match tuples, one member for each node."""
        if isinstance(pattern, Row):
            return self.matches_rows(pattern, nodes, found)
        if is_pattern_name(pattern, self.literals):
            found[pattern.key] = nodes
            return True
        return all([self.matches_leaf(pattern, node, found) for node in nodes])

    def matches_rows(self, pattern, nodes, found):
        """True if a list of patterns matches each node: first its first item with all nodes, and so on."""
        ahead, repeated, behind = pattern_items(pattern)
        cut = [parts_of_node(node) for node in nodes]
        rows = [parts for parts, _ in cut]
        least = len(ahead) + len(behind)
        if any([len(parts) < least for parts in rows]):
            return False
        for k, part in enumerate((*ahead, *behind)):
            at = k if k < len(ahead) else k - least
            if not self.matches_turns(part, tuple([parts[at] for parts in rows]), found):
                return False
        if repeated is None and not isinstance(pattern.tail, Fixed):
            return self.matches_turns(pattern.tail, tuple([rest_of(node, least) for node in nodes]), found)
        if repeated is None and any([len(parts) > least for parts in rows]):
            return False
        if not self.matches_turns(pattern.tail, tuple([tail for _, tail in cut]), found):
            return False
        if repeated is None:
            return True
        return self.matches_inner(repeated, [parts[len(ahead):len(parts) - len(behind)] for parts in rows], found)

    def matches_inner(self, repeated, rows, found):
        """True if a repeated item matches each node of each row of nodes."""
        inner = {}
        if not self.matches_turns(repeated, tuple(list(chain.from_iterable(rows))), inner):
            return False
        lengths = [len(row) for row in rows]
        for key, matches in inner.items():
            found[key] = tuple(cut_in_rows(matches, lengths))
        return True


def cut_in_rows(matches, lengths):
    """A row of matches, cut into rows of these lengths."""
    rows = []
    at = 0
    for length in lengths:
        rows.append(matches[at:at + length])
        at += length
    return rows


def rest_of(node, first):
    """What is left of a node behind its first items; a list that is left has the path of the node."""
    if not node.is_row:
        return node
    return row_of(node.parts[first:], node.tail, node.path, node.bound)


def whole_pattern(pattern):
    """A whole PATTERN as a list of patterns whose first item matches anything."""
    head = Word(ANYTHING, ANYTHING, (), ())
    return Row((head, *pattern.parts[1:]), pattern.tail, pattern.path, pattern.bound)


def match_of(matcher, whole, node):
    """The dict of what the names of a PATTERN, made whole, match; None if it does not match."""
    found = {}
    return found if matcher.matches(whole, node, found) else None
