"""Templates: what is wrong in them, and what they give with matches put in."""

from itertools import chain

from keptrest.errors import Uneven
from keptrest.nodes import Row, Word, is_nothing, words_in
from keptrest.patterns import cut_in_rows, is_repeat, items_from


def is_as_it_is(node):
    """True for a list of two items that takes its second one as it is."""
    return isinstance(node, Row) and len(node.parts) == 2 and is_repeat(node.parts[0]) and is_nothing(node.tail)


def has_name(node, names):
    """True if a pattern name stands in a template."""
    return any([word.key in names for word in words_in(node)])


class TemplateCheck:
    """Looks for the first wrong datum of a template; names is a dict from keys to depths."""

    def __init__(self, names):
        self.names = names

    def wrong_word(self, word, depth, as_it_is):
        """True for a repeat where none may stand, and for a name of a wrong depth."""
        if is_repeat(word):
            return not as_it_is
        return self.names.get(word.key, depth) != depth

    def wrong(self, node, depth, as_it_is):
        """The first wrong datum of a template that stands in so many repeated items; None if it is right."""
        if not as_it_is and is_as_it_is(node):
            node = node.parts[1]
            as_it_is = True
        if isinstance(node, Word):
            return node if self.wrong_word(node, depth, as_it_is) else None
        if not isinstance(node, Row):
            return None
        for k in range(len(node.parts)):
            found = self.wrong_item(node, k, depth, as_it_is)
            if found is not None:
                return found
        return self.wrong(node.tail, depth, as_it_is)

    def wrong_item(self, row, k, depth, as_it_is):
        """The first wrong datum in one item of a list."""
        part = row.parts[k]
        if as_it_is:
            return self.wrong(part, depth, True)
        if is_repeat(part):
            return None if k > 0 and not is_repeat(row.parts[k - 1]) else part
        if k + 1 == len(row.parts) or not is_repeat(row.parts[k + 1]):
            return self.wrong(part, depth, False)
        return self.wrong(part, depth + 1, False) if has_name(part, self.names) else part


def template_fault(names, template):
    """The first wrong datum of a template; None if it is right."""
    return TemplateCheck(names).wrong(template, 0, False)


class Putter:
    """Puts matches into a right template; maker makes what the template itself gives."""

    def __init__(self, maker):
        self.maker = maker
        self.keys_within = {}

    def put(self, node, matches, as_it_is):
        """What a template gives."""
        if isinstance(node, Word) and node.key in matches:
            return self.maker.take_match(matches[node.key])
        if not isinstance(node, Row):
            return self.maker.make_leaf(node)
        if not as_it_is and is_as_it_is(node):
            return self.put(node.parts[1], matches, True)
        return self.put_row(node, matches, as_it_is)

    def put_row(self, row, matches, as_it_is):
        """What a list of templates gives."""
        made = []
        for part, repeated in items_as_they_are(row) if as_it_is else template_items(row):
            if not repeated:
                made.append(self.put(part, matches, as_it_is))
            elif isinstance(part, Word):
                made.extend(self.maker.take_matches(matches[part.key]))
            else:
                made.extend(self.put_repeated(part, matches))
        tail = self.put(row.tail, matches, as_it_is)
        return self.maker.make_row(made, tail, row)

    def put_repeated(self, part, matches):
        """What a repeated item gives, as a list."""
        columns = {key: matches[key] for key in self.keys_in(part, matches)}
        many = length_of_all(list(columns.values()))
        given = None if many is None else self.put_turns(part, columns, many, False)
        return self.put_in_turns(part, matches) if given is None else given

    def put_in_turns(self, part, matches):
        """What a repeated item gives, turn by turn: so the first item whose names are uneven is found."""
        return [self.put(part, turn, False) for turn in self.turns_of(part, matches)]

    def put_turns(self, node, columns, many, as_it_is):
        """What a template gives in each turn; columns lead names to their matches in all turns.

        None if there are uneven names in it.
        """
        if isinstance(node, Word) and node.key in columns:
            return self.maker.take_matches(columns[node.key])
        if not isinstance(node, Row):
            return self.maker.make_leaves(node, many)
        if not as_it_is and is_as_it_is(node):
            return self.put_turns(node.parts[1], columns, many, True)
        return self.put_rows(node, columns, many, as_it_is)

    def put_rows(self, row, columns, many, as_it_is):
        """What a list of templates gives in each turn; None if there are uneven names in it."""
        made = [[] for _ in range(many)]
        for part, repeated in items_as_they_are(row) if as_it_is else template_items(row):
            given = self.put_inner(part, columns) if repeated else self.put_turns(part, columns, many, as_it_is)
            if given is None:
                return None
            for parts, more in zip(made, given):
                if repeated:
                    parts.extend(more)
                else:
                    parts.append(more)
        tails = self.put_turns(row.tail, columns, many, as_it_is)
        return [self.maker.make_row(parts, tail, row) for parts, tail in zip(made, tails)]

    def put_inner(self, part, columns):
        """What a repeated item gives in each turn, as lists; None if there are uneven names in it."""
        inner = {key: columns[key] for key in self.keys_in(part, columns)}
        rows_of_names = list(inner.values())
        lengths = [length_of_all(turn) for turn in zip(*rows_of_names)]
        if None in lengths:
            return None
        together = {key: list(chain.from_iterable(rows)) for key, rows in inner.items()}
        given = self.put_turns(part, together, sum(lengths), False)
        return None if given is None else cut_in_rows(given, lengths)

    def keys_in(self, part, matches):
        """The keys of the names in a repeated item."""
        if part not in self.keys_within:
            self.keys_within[part] = list({word.key: True for word in words_in(part) if word.key in matches})
        return self.keys_within[part]

    def turns_of(self, part, matches):
        """The matches for each turn of a repeated item."""
        keys = self.keys_in(part, matches)
        columns = [matches[key] for key in keys]
        if length_of_all(columns) is None:
            raise Uneven(self.maker.path_of(part))
        return [dict(zip(keys, turn)) for turn in zip(*columns)]


def length_of_all(rows):
    """The length that all rows have; None if they have unlike ones."""
    lengths = {len(row): True for row in rows}
    return len(rows[0]) if len(lengths) == 1 else None


def items_as_they_are(row):
    """A list's items, none of which is repeated."""
    return [(part, 0) for part in row.parts]


def template_items(row):
    """A template's items with 1 for those that are repeated, otherwise 0."""
    if row.template_parts is None:
        row.template_parts = items_from(row, 0)
    return row.template_parts
