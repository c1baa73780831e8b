import unittest

from keptrest.core import core_fault, depth_of, node_count
from keptrest.errors import UnknownName
from keptrest.lists import list_term, list_values, put_list
from keptrest.meaning import run, standing_after, step_words
from keptrest.names import binders_of, free_numbers, renumbered
from keptrest.progtext import value_text

NAMES = ("length", "reverse", "append", "map", "fold", "nth", "member")
WIDE = (5000, 5000)
TOP = 10 ** 30


def thing(address):
    return ("thing", address)


def const(value):
    return ("const", value)


def row(values, end=()):
    """A term for a row of pairs."""
    term = const(end)
    for value in reversed(values):
        term = ("prim", "pair", (value if type(value) is tuple and value[:1] == ("prim",) else const(value), term))
    return term


def applied(name, *args):
    return renumbered(("call", list_term(name, 100), args))


def ending(program, limits=WIDE):
    return run(program, (), limits, 20000)[0]


def text_of(values, end=()):
    """The text of a row of pairs of numbers."""
    if not values:
        return value_text((), end)
    inside = " ".join(value_text((), value) for value in values)
    return "(" + inside + (")" if end == () else " . " + value_text((), end) + ")")


class Values(unittest.TestCase):
    def test_example(self):
        self.assertEqual(put_list((), (7, 8)), (("thing", 1), (("pair", 8, ()), ("pair", 7, ("thing", 0)))))

    def test_put_list(self):
        store = (("box", 1),)
        self.assertEqual(put_list(store, ()), ((), store))
        self.assertEqual(put_list(store, (True,)), (thing(1), store + (("pair", True, ()),)))
        value, after = put_list(store, (thing(0), (), 5))
        self.assertEqual((value, after), (thing(3), store + (("pair", 5, ()), ("pair", (), thing(1)), ("pair", thing(0), thing(2)))))
        self.assertEqual(store, (("box", 1),))

    def test_list_values(self):
        for many in (0, 1, 2, 7, 3000):
            value, store = put_list((("box", 1),), tuple(range(many)))
            self.assertEqual(list_values(store, value), tuple(range(many)))
        self.assertEqual(list_values((), ()), ())

    def test_no_lists(self):
        for value in (5, True, ("name", "a")):
            self.assertIsNone(list_values((), value))
        store = (("pair", 1, 2), ("pair", 1, thing(1)), ("pair", 1, thing(1)), ("fn", (), ()), ("pair", 1, thing(3)),
                 ("pair", 1, thing(6)), ("pair", 2, thing(5)))
        for address in range(7):
            self.assertIsNone(list_values(store, thing(address)))

    def test_a_ring_of_firsts_is_a_list(self):
        self.assertEqual(list_values((("pair", thing(0), ()),), thing(0)), (thing(0),))


class Terms(unittest.TestCase):
    def test_unknown_names(self):
        for name in ("", "Length", "list", "put first", "filter", "len"):
            with self.assertRaises(UnknownName) as caught:
                list_term(name, 0)
            self.assertEqual(caught.exception.name, name)

    def test_form(self):
        for name in NAMES:
            for base in (0, 1, 50, 10 ** 9):
                term = list_term(name, base)
                self.assertIsNone(core_fault(term))
                self.assertEqual(free_numbers(term), ())
                self.assertLessEqual(node_count(term), 60)
                self.assertLessEqual(depth_of(term), 25)
                binders = binders_of(term)
                self.assertEqual(binders, tuple(range(base, base + len(binders))))

    def test_the_value_is_a_function(self):
        for name in NAMES:
            self.assertEqual(ending(list_term(name, 0)), ("end", "#function"))


class Functions(unittest.TestCase):
    ENDS = ((), 9, False, ("name", "x"))

    def rows(self):
        for many in range(8):
            for end in self.ENDS:
                yield [k * k - 3 for k in range(many)], end

    def test_length(self):
        for values, end in self.rows():
            self.assertEqual(ending(applied("length", row(values, end))), ("end", str(len(values))))

    def test_reverse(self):
        for values, end in self.rows():
            self.assertEqual(ending(applied("reverse", row(values, end))), ("end", text_of(values[::-1])))

    def test_append(self):
        for values, end in self.rows():
            for other in ((), 5, True):
                term = applied("append", row(values, end), const(other))
                self.assertEqual(ending(term), ("end", text_of(values, other)))
            self.assertEqual(ending(applied("append", row(values, end), row([8, 9]))), ("end", text_of(values + [8, 9])))

    def test_append_shares_the_second_list(self):
        term = ("let", 0, row([5]), ("prim", "pair", (("var", 0), ("call", list_term("append", 1), (row([1]), ("var", 0))))))
        self.assertEqual(ending(term), ("end", "(@0=(5) 1 . @0)"))

    def test_map(self):
        square = ("fn", (0,), None, ("prim", "times", (("var", 0), ("var", 0))))
        for values, end in self.rows():
            self.assertEqual(ending(applied("map", square, row(values, end))), ("end", text_of([k * k for k in values])))

    def test_map_calls_in_order(self):
        show = ("fn", (0,), None, ("seq", ("prim", "show", (("var", 0),)), ("var", 0)))
        for values, end in self.rows():
            shown = run(applied("map", show, row(values, end)), (), WIDE, 20000)[1]
            self.assertEqual(shown, tuple(str(value) for value in values))

    def test_fold(self):
        less = ("fn", (0, 1), None, ("prim", "less", (("var", 0), ("var", 1))))
        self.assertEqual(ending(applied("fold", less, const(10), row([1, 2, 3]))), ("end", "4"))
        for values, end in self.rows():
            self.assertEqual(ending(applied("fold", less, const(100), row(values, end))), ("end", str(100 - sum(values))))
        pairs = ("fn", (0, 1), None, ("prim", "pair", (("var", 0), ("var", 1))))
        self.assertEqual(ending(applied("fold", pairs, const(0), row([1, 2]))), ("end", "((0 . 1) . 2)"))

    def test_nth(self):
        for values, end in self.rows():
            for k in range(-3, 10):
                told = ending(applied("nth", row(values, end), const(k)))
                if 0 <= k < len(values):
                    self.assertEqual(told, ("end", str(values[k])))
                else:
                    self.assertEqual(told[:2], ("trap", "kind"))
                    self.assertEqual(told[2][0], 0)

    def test_nth_of_no_numbers(self):
        for values, end in self.rows():
            for k in (True, False, (), ("name", "a")):
                self.assertEqual(ending(applied("nth", row(values, end), const(k)))[:2], ("trap", "kind"))
            self.assertEqual(ending(applied("nth", row(values, end), row([0])))[:2], ("trap", "kind"))

    def test_nth_of_great_numbers(self):
        for values, end in self.rows():
            for k in (TOP - 1, 10 ** 29, -10 ** 29 + 2):
                self.assertEqual(ending(applied("nth", row(values, end), const(k)))[:2], ("trap", "kind"))
            self.assertIn(ending(applied("nth", row(values, end), const(1 - TOP)))[1], ("kind", "range"))

    def test_member(self):
        for values, end in self.rows():
            for x in (-3, 1, 46, 1000, True, (), 9):
                told = "#yes" if x in values and x is not True else "#no"
                self.assertEqual(ending(applied("member", const(x), row(values, end))), ("end", told))

    def test_member_by_form(self):
        term = applied("member", row([1, 2]), row([5, row([1, 2])]))
        self.assertEqual(ending(term), ("end", "#yes"))
        term = applied("member", row([1, 3]), row([5, row([1, 2])]))
        self.assertEqual(ending(term), ("end", "#no"))
        self.assertEqual(ending(applied("member", const(1), row([True]))), ("end", "#no"))

    def test_no_rows_at_all(self):
        for value in (5, True, ()):
            self.assertEqual(ending(applied("length", const(value))), ("end", "0"))
            self.assertEqual(ending(applied("reverse", const(value))), ("end", "()"))
            self.assertEqual(ending(applied("member", const(value), const(value))), ("end", "#no"))

    def test_functions_that_keep(self):
        """A continuation that is kept in map and entered again makes a new list."""
        text = ("let", 0, const(()), ("let", 1, const(0), ("let", 2, (
            "call", list_term("map", 5), (("fn", (3,), None, ("if", ("prim", "same", (("var", 3), const(2))), (
                "prim", "keep", (("fn", (4,), None, ("seq", ("set", 0, ("var", 4)), const(20))),)), ("var", 3))),
                row([1, 2, 3]))),
            ("seq", ("prim", "show", (("var", 2),)), ("if", ("prim", "below", (("var", 1), const(2))), (
                "seq", ("set", 1, ("prim", "add", (("var", 1), const(1)))), ("call", ("var", 0), (("var", 1),))), const(9))))))
        told = run(renumbered(text), (), WIDE, 20000)
        self.assertEqual(told[:2], (("end", "9"), ("(1 20 3)", "(1 1 3)", "(1 2 3)")))


def made_things(program, before):
    """The things that are made from the call on: those behind the ones of the arguments and the term."""
    count = run(program, (), WIDE, 20000)[2]
    store = standing_after(program, (), WIDE, count - 1)[3]
    return [made[0] for made in store[before:]]


class Bills(unittest.TestCase):
    ADD = ("fn", (0, 1), None, ("prim", "add", (("var", 0), ("var", 1))))
    SAME = ("fn", (0,), None, ("var", 0))

    def args(self, name, values, end):
        if name == "map":
            return (self.SAME, row(values, end))
        if name == "fold":
            return (self.ADD, const(0), row(values, end))
        if name == "append":
            return (row(values, end), const(7))
        if name == "nth":
            return (row(values, end), const(max(0, len(values) - 1)))
        return (const(99), row(values, end)) if name == "member" else (row(values, end),)

    def test_what_is_made(self):
        for name in NAMES:
            before = len(standing_after(list_term(name, 0), (), WIDE, run(list_term(name, 0), (), WIDE, 100)[2] - 1)[3])
            for many in range(0, 8):
                args = self.args(name, list(range(many)), ())
                own = many + (1 if name in ("map", "fold") else 0)
                pairs = many if name in ("reverse", "append", "map") else 0
                program = applied(name, *args)
                if name == "nth" and many == 0:
                    continue
                self.assertEqual(made_things(program, before + own), ["pair"] * pairs, name)

    def calls(self, name, many):
        """For each place of a call in the term the words of KONT at its calls, by single steps."""
        program = applied(name, *self.args(name, list(range(many)), ()))
        count = run(program, (), WIDE, 20000)[2]
        found = {}
        for steps in range(count - 1):
            before = standing_after(program, (), WIDE, steps)
            after = standing_after(program, (), WIDE, steps + 1)
            if before[0][0] == "give" and after[0][0] == "eval" and before[1] and before[1][-1][0] == "args":
                place = before[1][-1][1]
                body = after[0][1]
                if len(after[1]) < len(before[1]) and body[:len(place)] != place and place[:1] == (0,):
                    found.setdefault(place, []).append(sum(self.words(frame) for frame in after[1]))
        return found

    def words(self, frame):
        from keptrest.standings import frame_words
        return frame_words(frame)

    def test_tail_calls(self):
        for name in ("length", "reverse", "fold", "nth", "member"):
            found = self.calls(name, 6)
            self.assertTrue(found)
            for place, words in found.items():
                self.assertEqual(len(set(words)), 1, (name, place))
            self.assertGreaterEqual(max(len(words) for words in found.values()), 5)

    def test_calls_within_calls(self):
        for name in ("append", "map"):
            found = self.calls(name, 6)
            self.assertTrue(found)
            for place, words in found.items():
                steps = {after - before for before, after in zip(words, words[1:])}
                self.assertEqual(len(steps), 1, (name, place))
                self.assertGreater(min(steps), 0)
            self.assertEqual(max(len(words) for words in found.values()), 6)

    def test_rooms(self):
        """What is enough for a long list: tail calls want no more KONT for a longer one."""
        for name in ("length", "reverse", "fold", "nth", "member"):
            deep = []
            for many in (4, 40):
                program = applied(name, *self.args(name, list(range(many // 4)) * 2, ()))
                deep.append(max(words for _, words in step_words(program, (), WIDE, 20000)))
            self.assertEqual(deep[0], deep[1], name)


if __name__ == "__main__":
    unittest.main()
