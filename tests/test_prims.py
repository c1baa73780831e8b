import unittest

from keptrest.prims import do_prim, is_prim, prim_places

TOP = 10 ** 30
STORE = (("pair", 1, ("thing", 0)), ("fn", (), ()), ("kept", (), ()), ("pair", 1, ("thing", 0)), ("pair", 2, ()))
PAIR, FN, KEPT, OTHER = [("thing", k) for k in range(4)]
KINDS = {
    "number": (0, 5, -7, TOP - 1),
    "truth": (True, False),
    "nothing": ((),),
    "name": (("name", "a"), ("name", "pair")),
    "pair": (PAIR, OTHER),
    "function": (FN, KEPT),
}
PLACES = {
    "add": 2, "less": 2, "times": 2, "over": 2, "rest": 2, "below": 2, "is number": 1, "is truth": 1, "is nothing": 1,
    "is name": 1, "is pair": 1, "is function": 1, "same": 2, "alike": 2, "pair": 2, "first": 1, "second": 1,
    "put first": 2, "put second": 2, "show": 1, "ask": 0, "more": 0, "keep": 1, "wind": 3, "give up": 1,
}


class Table(unittest.TestCase):
    def test_names(self):
        for name, places in PLACES.items():
            self.assertIs(is_prim(name), True)
            self.assertEqual(prim_places(name), places, name)
        for name in ("", "put-first", "is-number", "Add", "put  first", "give-up", "list", "prompt", "take", "is", "call"):
            self.assertIs(is_prim(name), False, name)


class Doing(unittest.TestCase):
    def check(self, name, values, told):
        before = repr(STORE)
        self.assertEqual(repr(do_prim(name, values, STORE)), repr(told), (name, values))
        self.assertEqual(repr(STORE), before)

    def test_kinds_are_looked_at_from_left_to_right_and_first(self):
        for name in ("add", "less", "times", "over", "rest", "below"):
            for kind, values in KINDS.items():
                for value in values:
                    if kind != "number":
                        self.check(name, (value, 0), ("trap", "kind"))
                        self.check(name, (TOP - 1, value), ("trap", "kind"))
                        self.check(name, (value, value), ("trap", "kind"))
        self.check("over", (True, 0), ("trap", "kind"))
        self.check("rest", ((), 0), ("trap", "kind"))
        self.check("over", (1, False), ("trap", "kind"))

    def test_sums(self):
        self.check("add", (2, 3), ("give", 5))
        self.check("add", (TOP - 2, 1), ("give", TOP - 1))
        self.check("add", (TOP - 1, 1), ("trap", "range"))
        self.check("add", (1 - TOP, -1), ("trap", "range"))
        self.check("add", (1 - TOP, 0), ("give", 1 - TOP))
        self.check("less", (2, 5), ("give", -3))
        self.check("less", (1 - TOP, 1), ("trap", "range"))
        self.check("less", (TOP - 1, -1), ("trap", "range"))
        self.check("less", (TOP - 1, TOP - 1), ("give", 0))

    def test_products(self):
        self.check("times", (-3, 4), ("give", -12))
        self.check("times", (10 ** 15, 10 ** 15), ("trap", "range"))
        self.check("times", (-10 ** 15, 10 ** 15), ("trap", "range"))
        self.check("times", (10 ** 15 - 1, 10 ** 15 + 1), ("give", TOP - 1))
        self.check("times", (TOP - 1, TOP - 1), ("trap", "range"))
        self.check("times", (TOP - 1, 0), ("give", 0))

    def test_quotients(self):
        for one, other, over, rest in ((-7, 2, -4, 1), (7, -2, -4, -1), (7, 2, 3, 1), (-7, -2, 3, -1), (0, 5, 0, 0),
                                       (6, -3, -2, 0), (TOP - 1, -1, 1 - TOP, 0), (1 - TOP, 7, (1 - TOP) // 7, None)):
            self.check("over", (one, other), ("give", over))
            self.check("rest", (one, other), ("give", one - over * other if rest is None else rest))
        for name in ("over", "rest"):
            self.check(name, (5, 0), ("trap", "zero"))
            self.check(name, (0, 0), ("trap", "zero"))

    def test_below(self):
        self.check("below", (1, 2), ("give", True))
        self.check("below", (2, 2), ("give", False))
        self.check("below", (3, 2), ("give", False))
        self.check("below", (1 - TOP, TOP - 1), ("give", True))

    def test_kinds(self):
        for kind in KINDS:
            for other, values in KINDS.items():
                for value in values:
                    self.check("is " + kind, (value,), ("give", kind == other))

    def test_same_and_alike(self):
        values = [value for row in KINDS.values() for value in row]
        for k, value in enumerate(values):
            for j, other in enumerate(values):
                self.check("same", (value, other), ("give", k == j))
                joined = k == j or {value, other} == {PAIR, OTHER}
                self.check("alike", (value, other), ("give", joined))
        self.check("same", (1, True), ("give", False))
        self.check("same", (0, False), ("give", False))
        self.check("alike", (1, True), ("give", False))
        self.check("alike", (PAIR, ("thing", 4)), ("give", False))

    def test_pairs(self):
        self.check("pair", (1, FN), ("make", ("pair", 1, FN)))
        self.check("pair", (True, ()), ("make", ("pair", True, ())))
        self.check("first", (PAIR,), ("give", 1))
        self.check("second", (PAIR,), ("give", PAIR))
        self.check("second", (("thing", 4),), ("give", ()))
        self.check("put first", (PAIR, False), ("put", 0, ("pair", False, PAIR)))
        self.check("put second", (("thing", 4), PAIR), ("put", 4, ("pair", 2, PAIR)))
        self.check("put second", (PAIR, PAIR), ("put", 0, ("pair", 1, PAIR)))
        for name, more in (("first", ()), ("second", ()), ("put first", (1,)), ("put second", (PAIR,))):
            for kind, values in KINDS.items():
                if kind != "pair":
                    for value in values:
                        self.check(name, (value, *more), ("trap", "kind"))

    def test_put_takes_each_value(self):
        for values in KINDS.values():
            for value in values:
                self.check("put first", (("thing", 4), value), ("put", 4, ("pair", value, ())))
                self.check("put second", (("thing", 4), value), ("put", 4, ("pair", 2, value)))

    def test_give_up(self):
        for values in KINDS.values():
            for value in values:
                self.check("give up", (value,), ("trap", "given up"))


class Addresses(unittest.TestCase):
    """Prims do not see addresses ([47])."""

    def test_led(self):
        led = {0: 3, 1: 1, 2: 4, 3: 0, 4: 2}

        def lead(value):
            return ("thing", led[value[1]]) if type(value) is tuple and value[:1] == ("thing",) else value

        moved = [None] * 5
        for address, thing in enumerate(STORE):
            moved[led[address]] = tuple(lead(part) for part in thing)
        values = [value for row in KINDS.values() for value in row]
        for name, places in PLACES.items():
            if name in ("show", "ask", "more", "keep", "wind"):
                continue
            for value in values:
                for other in values:
                    passed = (value, other)[:places]
                    told = do_prim(name, passed, STORE)
                    if told[0] in ("make", "put"):
                        told = (*told[:-1], tuple(lead(part) for part in told[-1]))
                    if told[0] == "put":
                        told = ("put", led[told[1]], told[2])
                    if told[0] == "give":
                        told = ("give", lead(told[1]))
                    self.assertEqual(do_prim(name, tuple(lead(part) for part in passed), tuple(moved)), told)


if __name__ == "__main__":
    unittest.main()
