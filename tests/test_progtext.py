import itertools
import random
import unittest

from keptrest.errors import BadText
from keptrest.progtext import met_again, met_pairs, read_value, value_text


def thing(address):
    return ("thing", address)


def pair(first, second):
    return ("pair", first, second)


P0, P1, P2, P3, P4 = [thing(k) for k in range(5)]


class Texts(unittest.TestCase):
    def check(self, text, store, value):
        self.assertEqual(value_text(store, value), text)

    def test_constants(self):
        for text, value in (("5", 5), ("-5", -5), ("0", 0), ("1", 1), ("#yes", True), ("#no", False), ("()", ()),
                            ("abc", ("name", "abc")), ("thing", ("name", "thing")), ("9" * 30, 10 ** 30 - 1)):
            self.check(text, (), value)

    def test_functions(self):
        store = (("fn", (), ()), ("kept", (), ()), pair(P0, P1), pair(P0, ()), pair(P0, P0))
        self.check("#function", store, P0)
        self.check("#function", store, P1)
        self.check("(#function . #function)", store, P2)
        self.check("(#function)", store, P3)
        self.check("(#function . #function)", store, P4)

    def test_rows(self):
        self.check("(1)", (pair(1, ()),), P0)
        self.check("(1 2 3)", (pair(1, P1), pair(2, P2), pair(3, ())), P0)
        self.check("(1 2 . 3)", (pair(1, P1), pair(2, 3)), P0)
        self.check("((1) (2))", (pair(P1, P2), pair(1, ()), pair(P3, ()), pair(2, ())), P0)
        self.check("(() . #no)", (pair((), False),), P0)

    def test_examples(self):
        self.check("@0=(1 . @0)", (pair(1, P0),), P0)
        self.check("(@0=(5) @0)", (pair(P1, P2), pair(5, ()), pair(P1, ())), P0)
        self.check("(@0=(2) . @0)", (pair(P1, P1), pair(2, ())), P0)

    def test_rings(self):
        self.check("@0=(@0 . @0)", (pair(P0, P0),), P0)
        self.check("@0=(1 2 . @0)", (pair(1, P1), pair(2, P0)), P0)
        self.check("(1 . @0=(2 . @0))", (pair(1, P1), pair(2, P1)), P0)
        self.check("@0=(@1=(@0 . @1))", (pair(P1, ()), pair(P0, P1)), P0)
        self.check("@0=(@0)", (pair(P0, ()),), P0)

    def test_met_pairs(self):
        store = (pair(P1, P2), pair(5, ()), pair(P1, P3), pair(("name", "x"), P0), pair(9, 9))
        self.assertEqual(met_pairs(store, P0), (0, 1, 2, 3))
        self.assertEqual(met_again(store, P0), (0, 1))
        self.assertEqual(met_pairs(store, P2), (2, 1, 3, 0))
        self.assertEqual(met_again(store, P2), (2, 1))
        self.assertEqual(met_pairs(store, 5), ())
        self.assertEqual(met_again(store, ()), ())
        self.check("@0=(@1=(5) @1 x . @0)", store, P0)
        self.check("@0=(@1=(5) x @1 . @0)", store, P2)

    def test_met_pairs_go_first_ahead_of_second(self):
        store = (pair(P3, P1), pair(1, P2), pair(2, ()), pair(P2, ()))
        self.assertEqual(met_pairs(store, P0), (0, 3, 2, 1))
        self.assertEqual(met_again(store, P0), (2,))
        self.check("((@0=(2)) 1 . @0)", store, P0)

    def test_functions_are_not_gone_through(self):
        store = (pair(P1, P1), ("fn", (), ((0, P2),)), pair(1, 2))
        self.assertEqual(met_pairs(store, P0), (0,))

    def test_long(self):
        many = 20000
        store = tuple(pair(k % 7, thing(k + 1)) for k in range(many)) + (pair(1, ()),)
        text = value_text(store, P0)
        self.assertEqual(text, "(" + " ".join(str(k % 7) for k in range(many)) + " 1)")
        self.assertEqual(read_value(text), (store, P0))
        deep = tuple(pair(thing(k + 1), ()) for k in range(many)) + (pair(1, ()),)
        text = value_text(deep, P0)
        self.assertEqual(text, "(" * (many + 1) + "1" + ")" * (many + 1))
        self.assertEqual(read_value(text), (deep, P0))


class Reading(unittest.TestCase):
    def check(self, text, store, value):
        self.assertEqual(repr(read_value(text)), repr((store, value)))

    def fault(self, text, *place):
        with self.assertRaises(BadText) as caught:
            read_value(text)
        self.assertEqual(caught.exception.place, place, text)

    def test_constants(self):
        for text, value in ((" 5 ", 5), ("#yes", True), ("#no;x", False), ("()", ()), ("( )", ()), ("a", ("name", "a"))):
            self.check(text, (), value)

    def test_addresses_are_in_the_order_of_the_met_pairs(self):
        self.check("((1) 2 . 3)", (pair(P1, P2), pair(1, ()), pair(2, 3)), P0)
        self.check("(1 . (2 . (3)))", (pair(1, P1), pair(2, P2), pair(3, ())), P0)
        self.check("(() ())", (pair((), P1), pair((), ())), P0)

    def test_labels(self):
        self.check("@0=(1 . @0)", (pair(1, P0),), P0)
        self.check("(@0=(5) @0)", (pair(P1, P2), pair(5, ()), pair(P1, ())), P0)
        self.check("(1 . @0=(2 @0))", (pair(1, P1), pair(2, P2), pair(P1, ())), P0)
        self.check("@0= ; more\n\n (1)", (pair(1, ()),), P0)
        self.check("@0=(@0 . @0)", (pair(P0, P0),), P0)
        self.check("(@0=(1) @1=(2 . @0) . @1)", (pair(P1, P2), pair(1, ()), pair(P3, P3), pair(2, P1)), P0)

    def test_labels_that_do_not_go_on(self):
        self.assertEqual(value_text(*read_value("(1 . @0=(2))")), "(1 2)")
        self.assertEqual(value_text(*read_value("(@0=(1) . @0)")), "(@0=(1) . @0)")

    def test_wrong_labels(self):
        for text, column in (("@0", 1), ("@1=(1)", 1), ("(@0=(1) @2=(2))", 9), ("(@0=(1) @0=(2))", 9), ("(@0=(1) @1)", 9),
                             ("(@0 @0=(1))", 2), ("@0=(@1)", 5), ("@0=(@1=(1) @2)", 12), ("@00=(1)", 1), ("@1", 1)):
            self.fault(text, 1, column)

    def test_labels_behind_which_no_list_begins(self):
        for behind in ("", " ", "5", "a", "()", "( )", "( ;x\n )", ")", ".", "'", "'(1)", "@0", "@0=(1)", "\t", "05", "@",
                       "@00", ";\t\n(1)", ";c", "#function", "(;c\n)"):
            self.fault("@0=" + behind, 1, 1)
            self.fault("(1 @0=" + behind, 1, 4)

    def test_labels_behind_which_a_list_begins_badly(self):
        self.fault("@0=(", 1, 5)
        self.fault("@0=(\t", 1, 5)
        self.fault("@0=(05)", 1, 5)
        self.fault("@0=(;\t\n)", 1, 6)
        self.fault("@0=( .", 1, 6)
        self.fault("@0=(1", 1, 6)

    def test_labels_stand_where_data_stand(self):
        self.fault("(1 . 2 @0)", 1, 8)
        self.fault("(@0=(1) . 2 @0)", 1, 13)
        self.fault("(@0=(1) . @0 2)", 1, 14)
        self.fault("(1 . 2 @0=(1))", 1, 8)

    def test_quotes(self):
        self.fault("'a", 1, 1)
        self.fault("(a 'b)", 1, 4)
        self.fault("a 'b", 1, 3)

    def test_one_value_alone(self):
        self.fault("", 1, 1)
        self.fault(" ;x\n ", 2, 2)
        self.fault("1 2", 1, 3)
        self.fault("(1) )", 1, 5)
        self.fault("(1) (", 1, 5)
        self.fault("1 .", 1, 3)
        self.fault("1 @0", 1, 3)
        self.fault("1 05", 1, 3)
        self.fault("1 \t", 1, 3)
        self.fault("@0=(1) @0", 1, 8)

    def test_faults_as_in_programs(self):
        for text, column in ((")", 1), ("(", 2), ("(1 . ", 6), ("(. 1)", 2), ("(1 . 2 3)", 8), ("(05)", 2), ("#function", 1),
                             ("(#function)", 2), ("@", 1), ("@x", 1), (".", 1), ("(1 . )", 6), ("; \t", 3)):
            self.fault(text, 1, column)

    def test_brackets_are_not_counted(self):
        for many in (100, 101, 500):
            self.assertEqual(value_text(*read_value("(" * many + ")" * many)), "(" * many + ")" * many)

    def test_no_bound_of_length(self):
        store, value = read_value("(" + "1 " * 60000 + ")")
        self.assertEqual((len(store), value), (60000, P0))


def same_shape(one, other):
    """The facts of [12]: met pairs put one to one."""
    (store, value), (also, again) = one, other
    first, second = met_pairs(store, value), met_pairs(also, again)
    if len(first) != len(second):
        return False
    led = dict(zip(first, second))

    def lead(part):
        return thing(led[part[1]]) if type(part) is tuple and part[:1] == ("thing",) else part

    def plain(part):
        return (type(part), part)

    if plain(lead(value)) != plain(again):
        return False
    return all(plain(lead(store[a][k])) == plain(also[led[a]][k]) for a in first for k in (1, 2))


class Facts(unittest.TestCase):
    def stores(self):
        source = random.Random(5)
        for size in (1, 2, 3, 5, 8, 13):
            for _ in range(60):
                parts = [thing(k) for k in range(size)] * 2 + [(), (), 1, True, False, 0, ("name", "a")]
                store = tuple(pair(source.choice(parts), source.choice(parts)) for _ in range(size))
                yield store, thing(source.randrange(size))

    def test_a_text_read_is_the_value(self):
        for store, value in self.stores():
            text = value_text(store, value)
            read = read_value(text)
            self.assertTrue(same_shape((store, value), read), text)
            self.assertEqual(met_pairs(*read), tuple(range(len(read[0]))))
            self.assertEqual(value_text(*read), text)

    def test_labels_are_come_to_in_order(self):
        for store, value in self.stores():
            text = value_text(store, value)
            labels = [int(part.split("=")[0]) for part in text.split("@")[1:] if "=" in part.split("(")[0]]
            self.assertEqual(labels, list(range(len(met_again(store, value)))))

    def test_same_texts_exactly_for_same_shapes(self):
        parts = (thing(0), thing(1), (), 1)
        values = [((pair(a, b), pair(c, d)), P0) for a, b, c, d in itertools.product(parts, repeat=4)]
        for one in values[::5]:
            for other in values:
                self.assertEqual(value_text(*one) == value_text(*other), same_shape(one, other))


if __name__ == "__main__":
    unittest.main()
