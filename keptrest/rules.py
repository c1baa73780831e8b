"""Patterns and templates of plain data, whose literals match their own words alone."""

from keptrest.nodes import datum_of, node_of, row_of
from keptrest.patterns import Matcher, match_of, names_from, pattern_fault, whole_pattern
from keptrest.templates import Putter, template_fault


def keys_of(literals):
    """The literals as a dict."""
    return {word: True for word in literals}


def is_same_word(literal, word):
    """True if two words are one."""
    return literal.key == word.key


def named(literals, pattern):
    """The pairs (W, DEPTH) of a pattern's node."""
    return [(word.key, depth) for word, depth in names_from(keys_of(literals), pattern, 1, 0)]


def rule_fault(literals, pattern, template):
    """None, or the part of a rule and the path in it of the first wrong datum."""
    head = node_of(pattern, ())
    wrong = pattern_fault(keys_of(literals), head)
    if wrong is not None:
        return ("pattern", wrong.path)
    wrong = template_fault(dict(named(literals, head)), node_of(template, ()))
    return None if wrong is None else ("template", wrong.path)


def pattern_names(literals, pattern):
    """The pairs (W, DEPTH) of the names of a right pattern."""
    return tuple(named(literals, node_of(pattern, ())))


def plain_match(match, depth):
    """What a name of a depth matches, in plain data."""
    if depth == 0:
        return datum_of(match)
    return tuple([plain_match(turn, depth - 1) for turn in match])


def matched(literals, pattern, datum):
    """None, or the pairs (W, MATCH) in the order of the names."""
    head = node_of(pattern, ())
    matcher = Matcher(keys_of(literals), is_same_word)
    found = match_of(matcher, whole_pattern(head), node_of(datum, ()))
    if found is None:
        return None
    return tuple([(name, plain_match(found[name], depth)) for name, depth in named(literals, head)])


class PlainMaker:
    """Makes plain nodes from a template and from matches."""

    def take_match(self, match):
        return node_of(match, ())

    def take_matches(self, matches):
        return [node_of(match, ()) for match in matches]

    def make_leaf(self, node):
        return node

    def make_leaves(self, node, many):
        return [node] * many

    def make_row(self, parts, tail, row):
        return row_of(parts, tail, row.path, row.bound)

    def path_of(self, node):
        return node.path


def put_in(template, matches):
    """The datum that a template gives, its inserted words as they are."""
    putter = Putter(PlainMaker())
    return datum_of(putter.put(node_of(template, ()), dict(matches), False))
