import itertools
import random
import unittest

from keptrest.alike import alike, parting_road, value_at
from keptrest.errors import NoRoad
from keptrest.kinds import are_one, kind_of


def thing(address):
    return ("thing", address)


def pair(first, second):
    return ("pair", first, second)


def slow_road(store, value, other, longest):
    """Looks at all roads up to a length."""
    for length in range(longest + 1):
        for road in itertools.product((1, 2), repeat=length):
            try:
                one, two = value_at(store, value, road), value_at(store, other, road)
            except NoRoad:
                continue
            kinds = kind_of(store, one), kind_of(store, two)
            if kinds[0] != kinds[1] or (kinds[0] != "pair" and not are_one(one, two)):
                return road
    return None


class Alike(unittest.TestCase):
    def check(self, store, value, other, road):
        self.assertEqual(parting_road(store, value, other), road)
        self.assertEqual(parting_road(store, other, value), road)
        self.assertIs(alike(store, value, other), road is None)

    def test_constants(self):
        values = [0, 1, True, False, (), ("name", "a"), ("name", "b"), -1]
        for k, value in enumerate(values):
            for j, other in enumerate(values):
                self.check((), value, other, None if k == j else ())

    def test_example(self):
        store = (pair(1, thing(0)), pair(1, thing(2)), pair(1, thing(1)), pair(1, thing(4)), pair(2, thing(3)))
        self.check(store, thing(0), thing(1), None)
        self.check(store, thing(0), thing(3), (2, 1))

    def test_functions(self):
        store = (("fn", (), ()), ("fn", (), ()), pair(thing(0), ()), pair(thing(1), ()), pair(thing(0), ()), ("kept", (), ()))
        self.check(store, thing(0), thing(0), None)
        self.check(store, thing(0), thing(1), ())
        self.check(store, thing(0), thing(5), ())
        self.check(store, thing(2), thing(3), (1,))
        self.check(store, thing(2), thing(4), None)
        self.check(store, thing(2), thing(0), ())

    def test_the_least_road(self):
        store = (pair(thing(1), 1), pair(5, 6), pair(thing(3), 2), pair(5, 7), pair(thing(5), 1), pair(4, 7))
        self.check(store, thing(0), thing(2), (2,))
        self.check(store, thing(0), thing(4), (1, 1))
        self.check(store, thing(0), 1, ())
        self.check(store, thing(0), (), ())

    def test_rings_of_unlike_lengths(self):
        def ring(begin, length):
            return [pair(1, thing(begin + (k + 1) % length)) for k in range(length)]
        store = tuple(ring(0, 4) + ring(4, 6) + ring(10, 35))
        for one, other in ((0, 4), (0, 10), (4, 10), (4, 7)):
            self.check(store, thing(one), thing(other), None)
        broken = list(store)
        broken[20] = pair(2, thing(21))
        self.check(tuple(broken), thing(0), thing(10), (2,) * 10 + (1,))
        self.check(tuple(broken), thing(0), thing(21), (2,) * 34 + (1,))

    def test_truths_and_numbers_in_pairs(self):
        store = (pair(1, 0), pair(True, 0), pair(1, False))
        self.check(store, thing(0), thing(1), (1,))
        self.check(store, thing(0), thing(2), (2,))

    def test_against_all_roads(self):
        source = random.Random(3)
        for _ in range(400):
            size = source.randrange(2, 5)
            parts = [thing(k) for k in range(size)] * 2 + [(), 1, True]
            store = tuple(pair(source.choice(parts), source.choice(parts)) for _ in range(size))
            value, other = thing(source.randrange(size)), thing(source.randrange(size))
            self.check(store, value, other, slow_road(store, value, other, 7))

    def test_alike_leads_on(self):
        source = random.Random(4)
        for _ in range(100):
            parts = [thing(k) for k in range(6)] * 3 + [1]
            store = tuple(pair(source.choice(parts), source.choice(parts)) for _ in range(6))
            classes = [[alike(store, thing(a), thing(b)) for b in range(6)] for a in range(6)]
            for a, b, c in itertools.product(range(6), repeat=3):
                self.assertTrue(not (classes[a][b] and classes[b][c]) or classes[a][c])

    def test_long_rows(self):
        many = 5000
        store = tuple(pair(k, thing(k + 1)) for k in range(many)) + (pair(0, ()),)
        also = tuple(pair(k, thing(many + 2 + k)) for k in range(many)) + (pair(1, ()),)
        self.check(store + also, thing(0), thing(many + 1), (2,) * many + (1,))


class Roads(unittest.TestCase):
    STORE = (pair(1, thing(1)), pair(thing(0), ()), ("fn", (), ()), pair(thing(2), True))

    def test_value_at(self):
        for road, value in (((), thing(0)), ((1,), 1), ((2,), thing(1)), ((2, 1), thing(0)), ((2, 2), ()),
                            ((2, 1, 2, 1, 1), 1)):
            self.assertEqual(value_at(self.STORE, thing(0), road), value)
        self.assertIs(value_at(self.STORE, thing(3), (2,)), True)
        self.assertEqual(value_at(self.STORE, 5, ()), 5)

    def test_no_road(self):
        for value, road, number in ((5, (1,), 0), (thing(0), (1, 1), 1), (thing(0), (2, 2, 1, 1), 2), (thing(2), (2,), 0),
                                    (thing(3), (1, 2), 1), ((), (2, 2), 0), (thing(3), (2, 2, 2), 1), (thing(0), (3,), 0),
                                    (thing(0), (2, 0, 1), 1)):
            with self.assertRaises(NoRoad) as caught:
                value_at(self.STORE, value, road)
            self.assertEqual(caught.exception.number, number)


if __name__ == "__main__":
    unittest.main()
