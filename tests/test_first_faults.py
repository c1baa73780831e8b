"""[12]: what stands ahead of the first fault of a text can be gone on with; the fault itself cannot."""

import random
import unittest

from keptrest.datatext import read_data
from keptrest.errors import BadText
from keptrest.progtext import read_value

PIECES = ("(", "(", "(", ")", ")", "'", ".", " . ", " ", "\n", "a", "5", " b ", "#yes", "05", "@0", "@0=", "@1=", "@1", "@", ";",
          "; x\n", "\t", "()", "(c d)", "#function", "-", "-0")
ENDS = [begin + more + ")" * many for begin in ("", "\n") for more in ("", "x", " x", " . x", "(x)", "x)", ".x") for many in range(8)]


def fault_of(read, text):
    try:
        read(text)
    except BadText as error:
        return error.place
    return None


def offset(text, place):
    """How many characters stand ahead of a place."""
    rows = text.split("\n")
    return sum(len(row) + 1 for row in rows[:place[0] - 1]) + place[1] - 1


def token_end(text, at):
    """The end of the token that begins there."""
    end = at + 1
    if text[at] in "()'\t":
        return end
    while end < len(text) and text[end] not in " \n()'@;\t":
        end += 1
    return end


class FirstFaults(unittest.TestCase):
    def texts(self, seed, many):
        source = random.Random(seed)
        for _ in range(many):
            yield "".join(source.choice(PIECES) for _ in range(source.randrange(1, 12)))

    def check(self, read, seed):
        faults = 0
        for text in self.texts(seed, 4000):
            place = fault_of(read, text)
            if place is None:
                continue
            at = offset(text, place)
            self.assertTrue(any(fault_of(read, text[:at] + end) is None for end in ENDS), repr(text))
            if at < len(text) and text[at] != "@":
                faults += 1
                through = text[:token_end(text, at)]
                for end in ("", ")", " x", "(x)", "\n)", "))"):
                    self.assertEqual(fault_of(read, through + end), place, repr((text, end)))
        self.assertGreater(faults, 1000)

    def test_data(self):
        self.check(read_data, 1)

    def test_values(self):
        self.check(read_value, 2)


if __name__ == "__main__":
    unittest.main()
