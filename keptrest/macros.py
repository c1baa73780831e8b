"""Macros: how they are read, and what a use of one gives."""

from keptrest.errors import BadRule, NoRule, TooGreat
from keptrest.nodes import UNKNOWN, Bound, Fixed, Row, Word, is_nothing, measure, row_of, words_in
from keptrest.patterns import ANYTHING, REPEAT, Matcher, match_of, names_from, pattern_fault, whole_pattern
from keptrest.templates import Putter, template_fault

MOST_DATA = 5000
DEEPEST_LIST = 100


def read_literals(node):
    """The words of LITERALS."""
    if is_nothing(node):
        return ()
    if not isinstance(node, Row):
        raise BadRule(node.path)
    seen = {}
    for part in node.parts:
        if not isinstance(part, Word) or part.letters in (ANYTHING, REPEAT) or part.key in seen:
            raise BadRule(part.path)
        seen[part.key] = True
    if not is_nothing(node.tail):
        raise BadRule(node.tail.path)
    return node.parts


def read_rule(node, literals):
    """A rule as (PATTERN, TEMPLATE, the depths of its names)."""
    if not isinstance(node, Row) or len(node.parts) != 2 or not is_nothing(node.tail):
        raise BadRule(node.path)
    pattern, template = node.parts
    wrong = pattern_fault(literals, pattern)
    if wrong is not None:
        raise BadRule(wrong.path)
    depths = {word.key: depth for word, depth in names_from(literals, pattern, 1, 0)}
    wrong = template_fault(depths, template)
    if wrong is not None:
        raise BadRule(wrong.path)
    return (pattern, template, depths)


def note_rule(rule, literals, fates):
    """Notes what is told of the words of a rule when it is come to."""
    pattern, template, depths = rule
    for word in words_in(pattern.parts[0]):
        fates.note(word, ("pattern",))
    for part in (*pattern.parts[1:], pattern.tail):
        for word in words_in(part):
            fates.note(word, ("literal",) if word.key in literals else ("pattern",))
    for word in words_in(template):
        if word.key in depths or word.letters in (ANYTHING, REPEAT):
            fates.note(word, ("pattern",))


def read_macro(macro, parts, fates):
    """Reads LITERALS and the rules behind the word of a macro."""
    for word in read_literals(parts[0]):
        macro.literals[word.key] = True
        fates.note(word, ("literal",))
    for part in parts[1:]:
        rule = read_rule(part, macro.literals)
        note_rule(rule, macro.literals, fates)
        macro.rules.append(Rule(*rule))


class Rule:
    """A rule of a macro as uses need it: its PATTERN as a list of patterns, its TEMPLATE, and how that grows.

    copies tells how often the name that stands in TEMPLATE most often stands there.
    """

    def __init__(self, pattern, template, depths):
        times = {}
        for word in words_in(template):
            if word.key in depths:
                times[word.key] = times.get(word.key, 0) + 1
        self.pattern = whole_pattern(pattern)
        self.template = template
        self.deepest = measure(template).deepest
        self.copies = max(list(times.values()), default=0)


class UseMaker:
    """Makes what one use gives beside its matches, and counts it: new aliases, all with the path of the use."""

    def __init__(self, known, env, path):
        self.known = known
        self.env = env
        self.path = path
        self.own_aliases = {}
        self.made = 0
        self.bound = Bound(UNKNOWN, UNKNOWN)

    def take_match(self, match):
        return match

    def take_matches(self, matches):
        return matches

    def make_leaf(self, node):
        self.made += 1
        if isinstance(node, Fixed):
            return Fixed(node.value, self.path)
        if node.key not in self.own_aliases:
            self.own_aliases[node.key] = self.known.new_alias(node.key, self.env)
        return Word(self.own_aliases[node.key], node.letters, self.path, node.spot)

    def make_leaves(self, node, many):
        self.made += many
        return [self.make_leaf(node)] * many

    def make_row(self, parts, tail, _):
        self.made += 1
        return row_of(parts, tail, self.path, self.bound)

    def path_of(self, _):
        return self.path

    def set_bound(self, rule, use):
        """Tells all that was made of a use how great it is at most: each name matches unlike parts of the use."""
        bound = self.bound
        bound.most = self.made + rule.copies * use.bound.most
        bound.deepest = rule.deepest + use.bound.deepest


def is_too_great(bound):
    return bound.most > MOST_DATA or bound.deepest > DEEPEST_LIST


def given_by(rule, found, maker, use):
    """What a use gives by a rule that matches it."""
    given = Putter(maker).put(rule.template, found, False)
    maker.set_bound(rule, use)
    if is_too_great(maker.bound) and is_too_great(measure(given)):
        raise TooGreat("data")
    return given


def use_macro(macro, node, env, known, fates):
    """What a use that stands in an environment gives."""

    def is_like(literal, other):
        return known.meaning(literal.key, macro.env) == known.meaning(other.key, env)

    for rule in macro.rules:
        matcher = Matcher(macro.literals, is_like)
        found = match_of(matcher, rule.pattern, node)
        if found is not None:
            for word in matcher.liked:
                fates.note(word, ("literal",))
            return given_by(rule, found, UseMaker(known, macro.env, node.path), node)
    raise NoRule(node.path)
