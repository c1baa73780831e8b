"""Expansion, compared with plain_expander over many programs and orders."""

import os
import random
import sys
import unittest

sys.path.insert(0, os.path.dirname(os.path.abspath(__file__)))

import plain_expander as plain

from keptrest.core import is_program
from keptrest.datatext import data_text, datum_at, read_data
from keptrest.errors import KeptrestError
from keptrest.expander import expanded, is_clean, lot_of, places_back, renamed, uses_in, word_fates


class Compared(unittest.TestCase):
    def programs(self, many):
        made = plain.Sources(11)
        found = 0
        while found < many:
            text = made.program()
            try:
                data = read_data(text)
                expanded(data, ())
            except KeptrestError:
                continue
            found += 1
            yield text, data

    def test_programs(self):
        source = random.Random(12)
        uses = 0
        for text, data in self.programs(110):
            core = expanded(data, ())
            self.assertIs(is_program(core), True)
            uses += uses_in(data)
            for many in (0, 3, 40):
                order = tuple(source.randrange(1000) for _ in range(many))
                other = plain.Expander(data)
                other.expand(order)
                term, back, fates = other.told()
                self.assertEqual(term, core, text)
                self.assertEqual(other.uses, uses_in(data))
                self.assertEqual(expanded(data, order), core)
                self.assertEqual(places_back(data), back, text)
                self.assertEqual(word_fates(data), fates, text)
        self.assertGreater(uses, 250)

    def test_renaming_clean_lots(self):
        many = 0
        for text, data in self.programs(35):
            core = expanded(data, ())
            literals = {datum_at(data, path) for path, fates in word_fates(data) if ("literal",) in fates}
            for path, _ in word_fates(data)[::3]:
                if is_clean(data, path) and datum_at(data, path) not in literals:
                    many += 1
                    changed = renamed(data, lot_of(data, path), "never-seen")
                    self.assertEqual(expanded(changed, ()), core, text)
        self.assertGreater(many, 60)

    def test_layout_does_not_matter(self):
        for _, data in self.programs(20):
            for width in (20, 80):
                self.assertEqual(expanded(read_data(data_text(data, width)), ()), expanded(data, ()))


if __name__ == "__main__":
    unittest.main()
