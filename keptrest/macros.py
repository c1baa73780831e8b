"""Macros: how they are read, and what a use of one gives."""

from keptrest.errors import BadRule, NoRule, TooGreat
from keptrest.nodes import UNKNOWN, Fixed, Row, Word, is_nothing, measure, row_of, words_in
from keptrest.patterns import ANYTHING, REPEAT, Matcher, match_of, names_from, pattern_fault, whole_pattern
from keptrest.templates import Putter, template_fault, template_items

MOST_DATA = 5000
DEEPEST_LIST = 100


def read_literals(node):
    """The words of LITERALS."""
    if is_nothing(node):
        return ()
    if not isinstance(node, Row):
        raise BadRule(node.path)
    seen = {}
    for part in node.parts:
        if not isinstance(part, Word) or part.letters in (ANYTHING, REPEAT) or part.key in seen:
            raise BadRule(part.path)
        seen[part.key] = True
    if not is_nothing(node.tail):
        raise BadRule(node.tail.path)
    return node.parts


def read_rule(node, literals):
    """A rule as (PATTERN, TEMPLATE, the depths of its names)."""
    if not isinstance(node, Row) or len(node.parts) != 2 or not is_nothing(node.tail):
        raise BadRule(node.path)
    pattern, template = node.parts
    wrong = pattern_fault(literals, pattern)
    if wrong is not None:
        raise BadRule(wrong.path)
    depths = {word.key: depth for word, depth in names_from(literals, pattern, 1, 0)}
    wrong = template_fault(depths, template)
    if wrong is not None:
        raise BadRule(wrong.path)
    return (pattern, template, depths)


def note_rule(rule, literals, fates):
    """Notes what is told of the words of a rule when it is come to."""
    pattern, template, depths = rule
    for word in words_in(pattern.parts[0]):
        fates.note(word, ("pattern",))
    for part in (*pattern.parts[1:], pattern.tail):
        for word in words_in(part):
            fates.note(word, ("literal",) if word.key in literals else ("pattern",))
    for word in words_in(template):
        if word.key in depths or word.letters in (ANYTHING, REPEAT):
            fates.note(word, ("pattern",))


def read_macro(macro, parts, fates):
    """Reads LITERALS and the rules behind the word of a macro."""
    for word in read_literals(parts[0]):
        macro.literals[word.key] = True
        fates.note(word, ("literal",))
    for part in parts[1:]:
        rule = read_rule(part, macro.literals)
        note_rule(rule, macro.literals, fates)
        macro.rules.append(Rule(*rule))


def growth_of(template, depths):
    """(OWN DATA, COPIES) of a template: it gives at most so many data beside so many times those of the use.

    None if that cannot be told because lists are repeated.
    """
    waiting = [template]
    while waiting:
        node = waiting.pop()
        if isinstance(node, Row):
            if any([repeated and isinstance(part, Row) for part, repeated in template_items(node)]):
                return None
            waiting.extend(node.parts)
    measure(template)
    times = {}
    for word in words_in(template):
        if word.key in depths:
            times[word.key] = times.get(word.key, 0) + 1
    return (template.most, max(list(times.values()), default=0))


class Rule:
    """A rule of a macro as uses need it: its PATTERN as a list of patterns, its TEMPLATE, how the latter grows."""

    def __init__(self, pattern, template, depths):
        self.pattern = whole_pattern(pattern)
        self.template = template
        self.growth = growth_of(template, depths)


class UseMaker:
    """Makes what one use gives beside its matches: new aliases, all with the path of the use.

    What it makes is not greater than most and deepest tell.
    """

    def __init__(self, known, env, path):
        self.known = known
        self.env = env
        self.path = path
        self.own_aliases = {}
        self.most = UNKNOWN
        self.deepest = UNKNOWN

    def take_match(self, match):
        return match

    def take_matches(self, matches):
        return matches

    def make_leaf(self, node):
        if isinstance(node, Fixed):
            return Fixed(node.value, self.path)
        if node.key not in self.own_aliases:
            self.own_aliases[node.key] = self.known.new_alias(node.key, self.env)
        return Word(self.own_aliases[node.key], node.letters, self.path, node.spot)

    def make_row(self, parts, tail, _):
        return row_of(parts, tail, self.path, self)

    def path_of(self, _):
        return self.path

    def bound_by(self, rule, use):
        """Works out how great what a rule makes of a use may be, as far as that can be told ahead."""
        if rule.growth is not None:
            own, copies = rule.growth
            self.most = own + copies * use.most
            self.deepest = rule.template.deepest + use.deepest

    def may_be_too_great(self):
        return self.most > MOST_DATA or self.deepest > DEEPEST_LIST


def given_by(rule, found, maker, use):
    """What a use gives by a rule that matches it."""
    maker.bound_by(rule, use)
    given = Putter(maker).put(rule.template, found, False)
    if maker.may_be_too_great():
        measure(given)
        if given.most > MOST_DATA or given.deepest > DEEPEST_LIST:
            raise TooGreat("data")
    return given


def use_macro(macro, node, env, known, fates):
    """What a use that stands in an environment gives."""

    def is_like(literal, other):
        return known.meaning(literal.key, macro.env) == known.meaning(other.key, env)

    for rule in macro.rules:
        matcher = Matcher(macro.literals, is_like)
        found = match_of(matcher, rule.pattern, node)
        if found is not None:
            for word in matcher.liked:
                fates.note(word, ("literal",))
            return given_by(rule, found, UseMaker(known, macro.env, node.path), node)
    raise NoRule(node.path)
