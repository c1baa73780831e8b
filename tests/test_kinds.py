import unittest

from keptrest.kinds import are_one, kind_of

STORE = (("pair", 1, 2), ("fn", (), ()), ("kept", (), ()), ("pair", 1, 2))


class Kinds(unittest.TestCase):
    def test_kinds(self):
        for value, kind in ((0, "number"), (1, "number"), (-5, "number"), (10 ** 30 - 1, "number"), (True, "truth"),
                            (False, "truth"), ((), "nothing"), (("name", "a"), "name"), (("name", "thing"), "name"),
                            (("thing", 0), "pair"), (("thing", 1), "function"), (("thing", 2), "function")):
            self.assertEqual(kind_of(STORE, value), kind, value)

    def test_are_one(self):
        values = [0, 1, -1, True, False, (), ("name", "a"), ("name", "b"), ("thing", 0), ("thing", 1), ("thing", 3)]
        for k, value in enumerate(values):
            for j, other in enumerate(values):
                self.assertIs(are_one(value, other), k == j, (value, other))

    def test_equal_numbers_are_one(self):
        self.assertIs(are_one(10 ** 29 + 1, 10 ** 29 + 1), True)
        self.assertIs(are_one(("name", "a" * 30), ("name", "a" * 30)), True)


if __name__ == "__main__":
    unittest.main()
