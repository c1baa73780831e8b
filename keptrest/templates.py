"""Templates: what is wrong in them, and what they give with matches put in."""

from keptrest.errors import Uneven
from keptrest.nodes import Row, Word, is_nothing, row_of, words_in
from keptrest.patterns import is_repeat, items_from


def is_as_it_is(node):
    """True for a list of two items that takes its second one as it is."""
    return isinstance(node, Row) and len(node.parts) == 2 and is_repeat(node.parts[0]) and is_nothing(node.tail)


def has_name(node, names):
    """True if a pattern name stands in a template."""
    return any(word.key in names for word in words_in(node))


class TemplateCheck:
    """Looks for the first wrong datum of a template; names is a dict from keys to depths."""

    def __init__(self, names):
        self.names = names

    def wrong_word(self, word, depth, as_it_is):
        """True for a repeat where none may stand, and for a name of a wrong depth."""
        if is_repeat(word):
            return not as_it_is
        return self.names.get(word.key, depth) != depth

    def wrong(self, node, depth, as_it_is):
        """The first wrong datum of a template that stands in so many repeated items; None if it is right."""
        if not as_it_is and is_as_it_is(node):
            node = node.parts[1]
            as_it_is = True
        if isinstance(node, Word):
            return node if self.wrong_word(node, depth, as_it_is) else None
        if not isinstance(node, Row):
            return None
        for k in range(len(node.parts)):
            found = self.wrong_item(node, k, depth, as_it_is)
            if found is not None:
                return found
        return self.wrong(node.tail, depth, as_it_is)

    def wrong_item(self, row, k, depth, as_it_is):
        """The first wrong datum in one item of a list."""
        part = row.parts[k]
        if as_it_is:
            return self.wrong(part, depth, True)
        if is_repeat(part):
            return None if k > 0 and not is_repeat(row.parts[k - 1]) else part
        if k + 1 == len(row.parts) or not is_repeat(row.parts[k + 1]):
            return self.wrong(part, depth, False)
        return self.wrong(part, depth + 1, False) if has_name(part, self.names) else part


def template_fault(names, template):
    """The first wrong datum of a template; None if it is right."""
    return TemplateCheck(names).wrong(template, 0, False)


class Putter:
    """Puts matches into a right template; maker makes what the template itself gives."""

    def __init__(self, maker):
        self.maker = maker

    def put(self, node, matches, as_it_is):
        """What a template gives."""
        if not as_it_is and is_as_it_is(node):
            node = node.parts[1]
            as_it_is = True
        if isinstance(node, Row):
            return self.put_row(node, matches, as_it_is)
        if isinstance(node, Word) and node.key in matches:
            return self.maker.take_match(matches[node.key])
        return self.maker.make_leaf(node)

    def put_row(self, row, matches, as_it_is):
        """What a list of templates gives."""
        made = []
        items = [(part, 0) for part in row.parts] if as_it_is else items_from(row, 0)
        for part, repeated in items:
            turns = self.turns_of(part, matches) if repeated else [matches]
            for turn in turns:
                made.append(self.put(part, turn, as_it_is))
        tail = self.put(row.tail, matches, as_it_is)
        return row_of(made, tail, self.maker.path_of(row))

    def turns_of(self, part, matches):
        """The matches for each turn of a repeated item."""
        keys = {word.key: True for word in words_in(part) if word.key in matches}
        lengths = {len(matches[key]): True for key in keys}
        if len(lengths) != 1:
            raise Uneven(self.maker.path_of(part))
        many = list(lengths)[0]
        turns = []
        for k in range(many):
            turn = dict(matches)
            for key in keys:
                turn[key] = matches[key][k]
            turns.append(turn)
        return turns
