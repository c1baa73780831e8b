import itertools
import random
import unittest

from keptrest.datatext import datum_text, read_data
from keptrest.errors import Uneven
from keptrest.rules import matched, pattern_names, put_in, rule_fault


def data(text):
    return read_data(text)[0]


def names(text, *literals):
    return pattern_names(literals, data(text))


def match(pattern, datum, *literals):
    return matched(literals, data(pattern), data(datum))


def fault(pattern, template="1", literals=()):
    return rule_fault(literals, data(pattern), data(template))


def shown(found):
    """A match with its data as texts."""
    def show(match):
        if type(match) is tuple and (match == () or match[0] not in ("name", "list")):
            return tuple(show(part) for part in match)
        return datum_text(match)
    return None if found is None else {word: show(match) for word, match in found}


class PatternFaults(unittest.TestCase):
    def right(self, *patterns, literals=()):
        for pattern in patterns:
            self.assertIsNone(fault(pattern, literals=literals), pattern)

    def wrong(self, pattern, *path, literals=()):
        self.assertEqual(fault(pattern, "(& & &)", literals), ("pattern", path), pattern)

    def test_right(self):
        self.right("(_)", "(a)", "(_ a b)", "(_ a &)", "(_ a & b)", "(_ (a &) &)", "(_ (a b &) & c . d)", "(_ . a)",
                   "(_ a . 5)", "(_ _ _ _)", "(_ () #yes 5)", "(_ (a) (b . c) ((d)))", "(_ _ &)", "(_ 5 &)", "(_ (_) &)")

    def test_the_first_item_is_not_looked_at(self):
        self.right("((a a & & . &) a)", "(5 a)", "(& a)", "(a a)", "(() a)", "((& &) a)", "(& . a)", "(&)")
        self.right("(x a)", literals=("x",))

    def test_no_list(self):
        for pattern in ("a", "5", "()", "#yes", "_", "&"):
            self.wrong(pattern)

    def test_repeats(self):
        self.wrong("(_ &)", 1)
        self.wrong("(_ & a)", 1)
        self.wrong("(& &)", 1)
        self.wrong("((a) & b)", 1)
        self.wrong("(_ a & &)", 3)
        self.wrong("(_ a & b &)", 4)
        self.wrong("(_ a & b & c &)", 4)
        self.wrong("(_ (& a))", 1, 0)
        self.wrong("(_ (&))", 1, 0)
        self.wrong("(_ a (b & c &))", 2, 3)
        self.wrong("(_ a . &)", 2)
        self.wrong("(_ (a . &))", 1, 1)
        self.wrong("(_ . &)", 1)
        self.wrong("(_ a & . &)", 3)
        self.right("(_ (a &) (b &) c &)", "(_ (a & b) & c)")

    def test_names_stand_once(self):
        self.wrong("(_ a a)", 2)
        self.wrong("(_ a (b a))", 2, 1)
        self.wrong("(_ a b . a)", 3)
        self.wrong("(_ (a . a))", 1, 1)
        self.wrong("(_ a & (c a))", 3, 1)
        self.right("(_ a a b a)", literals=("a",))
        self.right("(_ _ _ . _)")

    def test_the_first_one(self):
        self.wrong("(_ (a a) &)", 1, 1)
        self.wrong("(_ & (a a))", 1)
        self.wrong("(_ ((& a)) a a)", 1, 0, 0)
        self.wrong("(_ (a &) (& b) a)", 2, 0)


class TemplateFaults(unittest.TestCase):
    def right(self, pattern, *templates):
        for template in templates:
            self.assertIsNone(fault(pattern, template), template)

    def wrong(self, pattern, template, *path, literals=()):
        self.assertEqual(fault(pattern, template, literals), ("template", path), template)

    def test_right(self):
        self.right("(_ a b &)", "a", "x", "5", "()", "_", "(a x)", "(b &)", "(b & b &)", "(a b & . x)", "((x b) & a)",
                   "((x b) &)", "(x . a)", "(((b &)))", "(b & . a)")
        self.right("(_ (a b &) &)", "((a b &) &)", "((a (b &)) &)", "(a & ((b x) & . y) &)", "((b &) &)")

    def test_repeats(self):
        self.wrong("(_ b &)", "&")
        self.wrong("(_ b &)", "(&)", 0)
        self.wrong("(_ b &)", "(& b)", 1)
        self.wrong("(_ b &)", "(& b &)", 0)
        self.wrong("(_ b &)", "(& b . x)", 0)
        self.wrong("(_ b &)", "(b & &)", 2)
        self.wrong("(_ b &)", "(b & & &)", 2)
        self.wrong("(_ b &)", "(b & . &)", 2)
        self.wrong("(_ b)", "(b . &)", 1)
        self.wrong("(_ b)", "(x (&) y)", 1, 0)
        self.wrong("(_ b)", "(& b &)", 0)

    def test_depths(self):
        self.wrong("(_ a b &)", "b")
        self.wrong("(_ a b &)", "(b)", 0)
        self.wrong("(_ a b &)", "((a b) &)", 0, 0)
        self.wrong("(_ a b &)", "((b a) &)", 0, 1)
        self.wrong("(_ a b &)", "((b &) &)", 0, 0)
        self.wrong("(_ a b &)", "(x . b)", 1)
        self.wrong("(_ (b &) &)", "(b &)", 0)
        self.wrong("(_ (b &) &)", "((b) &)", 0, 0)
        self.wrong("(_ a)", "(a &)", 0)
        self.right("(_ (b &) &)", "((b &) &)", "(((b &)) &)")

    def test_repeated_items_without_names(self):
        self.wrong("(_ a b &)", "(x &)", 0)
        self.wrong("(_ a b &)", "(5 &)", 0)
        self.wrong("(_ a b &)", "(() &)", 0)
        self.wrong("(_ a b &)", "((x (y &)) &)", 0)
        self.wrong("(_ a b &)", "(b & (x) &)", 2)
        self.wrong("(_ b &)", "(_ &)", 0)
        self.wrong("(_ (b &) &)", "((x (y &) b &) &)", 0, 1, 0)

    def test_as_it_is(self):
        self.right("(_ a)", "(& &)", "(& (a &))", "(& (& &))", "(& (a & & . &))", "((& (a &)) a)", "(& (& a b))", "(& x)",
                   "(& ((& a) &))", "(& (& a))")
        self.right("(_ b &)", "((& (b &)) &)", "((x (& b)) &)", "((& b) &)")
        self.wrong("(_ b &)", "(& b)", 1)
        self.wrong("(_ b &)", "(& (b &))", 1, 0)
        self.wrong("(_ b &)", "((& (x &)) &)", 0)
        self.wrong("(_ a b &)", "((& (b a)) &)", 0, 1, 1)
        self.wrong("(_ a)", "(& (a) x)", 0)
        self.wrong("(_ a)", "((& &) &)", 0)

    def test_literals_are_inserted(self):
        self.wrong("(_ a &)", "(x &)", 0, literals=("x",))
        self.assertIsNone(fault("(_ a x)", "(x a)", ("x",)))
        self.assertIsNone(fault("(_ a & x)", "(x a &)", ("x",)))
        self.wrong("(_ x y &)", "(x y)", 1, literals=("x",))

    def test_names_of_the_first_item_are_no_names(self):
        self.assertIsNone(fault("(f a)", "(f a)"))
        self.wrong("((f g &) a)", "(g &)", 0)

    def test_the_pattern_comes_ahead(self):
        self.assertEqual(fault("(_ & a)", "&"), ("pattern", (1,)))
        self.assertEqual(fault("5", "&"), ("pattern", ()))


class Names(unittest.TestCase):
    def test_names(self):
        self.assertEqual(names("(_)"), ())
        self.assertEqual(names("(f a b)"), (("a", 0), ("b", 0)))
        self.assertEqual(names("(_ (x (y &) &) & _ z . w)"), (("x", 1), ("y", 3), ("z", 0), ("w", 0)))
        self.assertEqual(names("(_ if a else b)", "if", "else"), (("a", 0), ("b", 0)))
        self.assertEqual(names("((a b) (c . d) 5 ())"), (("c", 0), ("d", 0)))
        self.assertEqual(names("(_ a & . b)"), (("a", 1), ("b", 0)))


class Matching(unittest.TestCase):
    def check(self, pattern, datum, expected, *literals):
        self.assertEqual(shown(match(pattern, datum, *literals)), expected, (pattern, datum))

    def test_leaves(self):
        self.check("(_ a)", "(m 5)", {"a": "5"})
        self.check("(_ _ a)", "(m (x y) z)", {"a": "z"})
        self.check("(_ 5)", "(m 5)", {})
        self.check("(_ 1)", "(m #yes)", None)
        self.check("(_ #yes)", "(m 1)", None)
        self.check("(_ #no)", "(m 0)", None)
        self.check("(_ 0)", "(m #no)", None)
        self.check("(_ #yes)", "(m #yes)", {})
        self.check("(_ ())", "(m ())", {})
        self.check("(_ ())", "(m (1))", None)
        self.check("(_ ())", "(m 0)", None)
        self.check("(_ else)", "(m else)", {}, "else")
        self.check("(_ else)", "(m other)", None, "else")
        self.check("(_ else)", "(m 5)", None, "else")
        self.check("(_ else)", "(m (else))", None, "else")

    def test_the_first_item_matches_anything(self):
        for first in ("m", "5", "(x y)", "()"):
            self.check("(a b)", "(%s 5)" % first, {"b": "5"})
            self.check("((c d) b)", "(%s 5)" % first, {"b": "5"})
            self.check("(7 b)", "(%s 5)" % first, {"b": "5"})

    def test_no_lists(self):
        for datum in ("5", "m", "()", "#yes"):
            self.check("(_)", datum, None)
            self.check("(_ . a)", datum, None)

    def test_plain_lists(self):
        self.check("(_ a b)", "(m 1 2)", {"a": "1", "b": "2"})
        for datum in ("(m 1)", "(m)", "(m 1 2 3)", "(m 1 2 . 3)", "(m 1 . 2)"):
            self.check("(_ a b)", datum, None)
        self.check("(_ (a b) c)", "(m (1 (2)) 3)", {"a": "1", "b": "(2)", "c": "3"})
        self.check("(_ (a b) c)", "(m 1 3)", None)

    def test_tails(self):
        self.check("(_ a . b)", "(m 1 2 3)", {"a": "1", "b": "(2 3)"})
        self.check("(_ a . b)", "(m 1)", {"a": "1", "b": ()})
        self.check("(_ a . b)", "(m 1 . 2)", {"a": "1", "b": "2"})
        self.check("(_ a . b)", "(m 1 2 . 3)", {"a": "1", "b": "(2 . 3)"})
        self.check("(_ a . b)", "(m)", None)
        self.check("(_ . a)", "(m)", {"a": ()})
        self.check("(_ . 5)", "(m . 5)", {})
        self.check("(_ . 5)", "(m)", None)
        self.check("(_ . _)", "(m 1 2 . 3)", {})
        self.check("(_ a . else)", "(m 1 . else)", {"a": "1"}, "else")
        self.check("(_ (a . b))", "(m 5)", None)

    def test_repeats(self):
        self.check("(_ a &)", "(m)", {"a": ()})
        self.check("(_ a &)", "(m 1 2 3)", {"a": ("1", "2", "3")})
        self.check("(_ a &)", "(m 1 . 2)", None)
        self.check("(_ a & b)", "(m 1)", {"a": (), "b": "1"})
        self.check("(_ a & b)", "(m)", None)
        self.check("(_ x a & b c)", "(m 1 2 3 4 5)", {"x": "1", "a": ("2", "3"), "b": "4", "c": "5"})
        self.check("(_ x a & b c)", "(m 1 2)", None)
        self.check("(_ a & . b)", "(m 1 2 . 3)", {"a": ("1", "2"), "b": "3"})
        self.check("(_ a & . b)", "(m 1 2)", {"a": ("1", "2"), "b": ()})
        self.check("(_ a & b . c)", "(m 1 2 . 3)", {"a": ("1",), "b": "2", "c": "3"})
        self.check("(_ 5 &)", "(m 5 5 5)", {})
        self.check("(_ 5 &)", "(m 5 6 5)", None)
        self.check("(_ else & a)", "(m else else x)", {"a": "x"}, "else")

    def test_repeats_in_what_is_no_list(self):
        self.check("(_ (a & . b))", "(m 5)", {"a": (), "b": "5"})
        self.check("(_ (a &))", "(m ())", {"a": ()})
        self.check("(_ (a &))", "(m 5)", None)
        self.check("(_ (a & b))", "(m ())", None)

    def test_repeats_in_repeats(self):
        self.check("(_ (a b &) &)", "(m (1 2 3) (4) (5 6))", {"a": ("1", "4", "5"), "b": (("2", "3"), (), ("6",))})
        self.check("(_ (a b &) &)", "(m)", {"a": (), "b": ()})
        self.check("(_ (a b &) &)", "(m (1) ())", None)
        self.check("(_ ((a &) &) &)", "(m () ((1) ()))", {"a": ((), (("1",), ()))})

    def test_the_order_of_names(self):
        found = match("(_ z (y & x) & . w)", "(m 1 (2 3) . 4)")
        self.assertEqual([word for word, _ in found], ["z", "y", "x", "w"])
        self.assertEqual(found, (("z", 1), ("y", ((2,),)), ("x", (3,)), ("w", 4)))

    def test_matches_are_data(self):
        self.assertEqual(match("(_ a b &)", "(m (1 . x) () y)"),
                         (("a", ("list", (1,), ("name", "x"))), ("b", ((), ("name", "y")))))


class PuttingIn(unittest.TestCase):
    def check(self, pattern, template, datum, expected, *literals):
        self.assertIsNone(fault(pattern, template, literals))
        found = match(pattern, datum, *literals)
        self.assertEqual(datum_text(put_in(data(template), found)), expected, template)

    def test_plain(self):
        self.check("(_ a b)", "(let ((t a)) (set a b) (set b t))", "(swap! t u)", "(let ((t t)) (set t u) (set u t))")
        self.check("(_ a)", "a", "(m (1 2))", "(1 2)")
        self.check("(_ a)", "5", "(m 1)", "5")
        self.check("(_ a)", "()", "(m 1)", "()")
        self.check("(_ a)", "(x #yes . #no)", "(m 1)", "(x #yes . #no)")

    def test_tails(self):
        self.check("(_ a b)", "(a . b)", "(m 1 2)", "(1 . 2)")
        self.check("(_ a b)", "(a . b)", "(m 1 (2 3))", "(1 2 3)")
        self.check("(_ a b)", "(a . b)", "(m 1 (2 3 . 4))", "(1 2 3 . 4)")
        self.check("(_ a . b)", "(x . b)", "(m 1)", "(x)")
        self.check("(_ a & . b)", "(a & . b)", "(m . 5)", "5")
        self.check("(_ a & . b)", "(a & . b)", "(m)", "()")
        self.check("(_ a & b)", "(a & . b)", "(m (x y))", "(x y)")
        self.check("(_ a & b)", "(q (a &) . b)", "(m (x y))", "(q () x y)")

    def test_repeats(self):
        self.check("(_ a &)", "(a &)", "(m 1 2 3)", "(1 2 3)")
        self.check("(_ a &)", "((x a) & y)", "(m 1 2)", "((x 1) (x 2) y)")
        self.check("(_ a &)", "(a & a &)", "(m 1 2)", "(1 2 1 2)")
        self.check("(_ (a b) &)", "(let ((a b) &) (a & . 7))", "(m (x 1) (y 2))", "(let ((x 1) (y 2)) (x y . 7))")
        self.check("(_ (a b &) &)", "((a (b &)) &)", "(m (1 2 3) (4))", "((1 (2 3)) (4 ()))")
        self.check("(_ (a b &) &)", "((b & a) & (a &))", "(m (1 2 3) (4))", "((2 3 1) (4) (1 4))")

    def test_as_it_is(self):
        self.check("(_ a)", "((& (a &)) a)", "(m x)", "((x &) x)")
        self.check("(_ a)", "(& &)", "(m x)", "&")
        self.check("(_ a)", "(& (& a))", "(m x)", "(& x)")
        self.check("(_ a)", "(& ((& a) & . a))", "(m x)", "((& x) & . x)")
        self.check("(_ a &)", "((& (a &)) &)", "(m 1 2)", "((1 &) (2 &))")

    def test_uneven(self):
        found = (("a", (1, 2)), ("b", (1,)), ("c", ((1, 2), (3,))), ("d", ((1, 2), (3, 4))))
        put_in(data("((a c &) &)"), found)
        for template, path in (("((a b) &)", (0,)), ("(x (a &) ((b a) &))", (2, 0)), ("(((c d) &) &)", (0, 0)),
                               ("((a ((c d) &)) &)", (0, 1, 0)), ("((a b) & ((c d) &) &)", (0,)), ("((d a b) &)", (0,))):
            with self.assertRaises(Uneven) as caught:
                put_in(data(template), found)
            self.assertEqual(caught.exception.path, path, template)

    def test_uneven_turn_by_turn(self):
        """The first item that is come to: the later one in an earlier turn."""
        found = (("p", ((1, 2), (1,))), ("q", ((1, 2), (1, 2))), ("r", ((1,), (1,))), ("s", ((1, 2), (1,))))
        template = "((((p q) &) ((r s) &)) &)"
        with self.assertRaises(Uneven) as caught:
            put_in(data(template), found)
        self.assertEqual(caught.exception.path, (0, 1, 0))

    def test_turns_of_none(self):
        self.assertEqual(put_in(data("((a b) &)"), (("a", ()), ("b", ()))), ())
        with self.assertRaises(Uneven):
            put_in(data("((a b) &)"), (("a", ()), ("b", (1,))))


class Facts(unittest.TestCase):
    def test_a_pattern_as_template_gives_back_what_it_matched(self):
        source = random.Random(6)

        def pattern(depth, names):
            if depth == 0 or source.random() < 0.3:
                if source.random() < 0.8:
                    names.append("v%d" % len(names))
                    return ("name", names[-1])
                return source.choice((5, True, ()))
            items = [pattern(depth - 1, names) for _ in range(source.randrange(1, 4))]
            if source.random() < 0.5:
                k = source.randrange(len(items))
                names.append("v%d" % len(names))
                items[k] = ("list", (("name", names[-1]), items[k]), ())
                items.insert(k + 1, ("name", "&"))
            tail = source.choice(((), (), 7, None))
            if tail is None:
                names.append("v%d" % len(names))
                tail = ("name", names[-1])
            return ("list", tuple(items), tail)

        def filled(datum, k=0):
            if type(datum) is not tuple or datum == ():
                return datum
            if datum[0] == "name":
                return source.choice((1, True, (), ("name", "z"), ("list", (1, 2), 3)))
            items = []
            for part, behind in itertools.zip_longest(datum[1], datum[1][1:]):
                if part != ("name", "&"):
                    for _ in range(source.randrange(3) if behind == ("name", "&") else 1):
                        items.append(filled(part))
            tail = filled(datum[2])
            if not items:
                return tail
            if type(tail) is tuple and tail[:1] == ("list",):
                return ("list", tuple(items) + tail[1], tail[2])
            return ("list", tuple(items), tail)

        right = 0
        for _ in range(500):
            whole = ("list", (("name", "_"), pattern(3, [])), ())
            if rule_fault((), whole, 1) is not None:
                continue
            datum = ("list", (("name", "m"), filled(whole[1][1])), ())
            found = matched((), whole, datum)
            if found is None:
                continue
            right += 1
            self.assertEqual([word for word, _ in found], [word for word, _ in pattern_names((), whole)])
            self.assertEqual(put_in(whole[1][1], found), datum[1][1])
        self.assertGreater(right, 200)

    def test_deep(self):
        text = "(_ " + "(" * 98 + "a" + ")" * 98 + ")"
        found = match(text, "(m " + "(" * 98 + "5" + ")" * 98 + ")")
        self.assertEqual(found, (("a", 5),))
        repeated = "(_ " + "(" * 90 + "a" + " &)" * 90 + ")"
        self.assertEqual(names(repeated), (("a", 90),))
        self.assertIsNotNone(match(repeated, "(m " + "(" * 90 + "5" + ")" * 90 + ")"))
        self.assertIsNone(fault(repeated, "(" * 90 + "a" + " &)" * 90))


if __name__ == "__main__":
    unittest.main()
