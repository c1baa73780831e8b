"""[129]: questions, answers and certificates."""

import os
import random
import sys
import unittest

sys.path.insert(0, os.path.dirname(os.path.abspath(__file__)))

import plain_free
import plain_meaning
from samples import WIDE, call, changed, const, fn, let, program, programs, put, seq, var, with_row
from test_laps import GROWING, LOOPS

from keptrest.codecheck import code_fault
from keptrest.codegen import compiled
from keptrest.errors import BadText, Open
from keptrest.images import image_of
from keptrest.meaning import run, standing_after
from keptrest.names import renumbered
from keptrest.needs import needs
from keptrest.shown import answer_to, certified, is_certified

LOOP = let(0, const(()), seq(put(0, fn(call(var(0)))), call(var(0))))
OTHERS = ((), None, True, False, 0, 1, "lap", ("lap",), ("ending", 1), ("need", 0), ("event", 0), ("road", ()), ("image", ()), ("lap", 0, 1),
          ("lap", 11, 14, 17), ("lap", True, 2), ("lap", 11, True), (("lap", 11, 14),), ("ending", 9, ("end", "5"), ()), ("point", 0, "map"))


def bent(certificate):
    """Certificates with one field changed, or with more or fewer fields."""
    found = [certificate + (1,), certificate[:-1], (certificate,)] if certificate != () else [(1,), ((),)]
    for k, part in enumerate(certificate):
        for other in (part + 1, part - 1, bool(part), str(part), (part,)) if type(part) is int else ((), "x", None, 0, True, (part,)):
            if repr(other) != repr(part):
                found.append(changed(certificate, k, other))
    return found


class Case(unittest.TestCase):
    def same(self, one, other):
        self.assertEqual(repr(one), repr(other))

    def shows(self, question, answer, certificate):
        """A question with its answer, and with the one certificate for it."""
        self.assertIs(answer_to(question), answer)
        self.same(certified(question), (answer, certificate))
        self.assertIs(is_certified(question, answer, certificate), True)
        self.assertIs(is_certified(question, not answer, certificate), False)
        for other in bent(certificate):
            self.assertIs(is_certified(question, answer, other), False, other)
        for other in OTHERS:
            if repr(other) != repr(certificate):
                self.assertIs(is_certified(question, answer, other), False, other)
                self.assertIs(is_certified(question, not answer, other), False, other)


class LetBy(Case):
    def test_codes(self):
        for _, term, _ in programs():
            code = compiled(term)
            self.shows(("let by", term, code), True, ())
            for k, row in enumerate(code[0][:12]):
                other = with_row(code, k, ("back",))
                try:
                    told = code_fault(term, other)
                except (KeyError, IndexError, TypeError):
                    continue
                if told is not None:
                    self.shows(("let by", term, other), False, told)

    def test_example(self):
        rows = (("prim", "ask", (0,), (), 1), ("to", 1, 2), ("load", 2, 3), ("to", 1, 4), ("prim", "add", (), (0, 1), 5), ("back",))
        term = ("prim", "add", (("prim", "ask", ()), const(2)))
        self.shows(("let by", term, (rows, (("eval", (), (), ()),) + (None,) * 5, (), 0)), False, ("point", 0, "empty"))


class Ends(Case):
    def test_both(self):
        for _, term, inputs in programs():
            for limits in (WIDE, (5, 5), (0, 0)):
                for steps in (0, 1, 30, 2000):
                    ending, output, count, _ = run(term, inputs, limits, steps)
                    question = ("ends", term, inputs, limits, steps)
                    if ending == ("open",):
                        image = image_of(standing_after(term, inputs, limits, steps))
                        self.shows(question, False, ("image", image))
                    else:
                        self.shows(question, True, ("ending", count, ending, output))

    def test_truths(self):
        term = program("(show #yes) 1")
        self.shows(("ends", term, (), WIDE, 9), True, ("ending", 7, ("end", "1"), ("#yes",)))
        question = ("ends", term, (), WIDE, 1)
        self.assertFalse(is_certified(question, False, ("image", changed(certified(question)[1][1], 4, (1,)))))
        asking = program("(pair 1 (ask))")
        made = ("ends", asking, (1,), WIDE, 3)
        image = certified(made)[1][1]
        self.assertIn((1,), image)
        self.assertFalse(is_certified(made, False, ("image", changed(image, 4, (True,)))))


class NeverEnds(Case):
    def test_example(self):
        question = ("never ends", LOOP, (), 60)
        self.same(certified(question), (True, ("lap", 11, 14)))
        for i in (0, 9, 10, 11, 12, 13, 14, 40, 57, 60):
            for j in range(61):
                wanted = 11 <= i < j and (j - i) % 3 == 0
                self.assertEqual(is_certified(question, True, ("lap", i, j)), wanted)
                self.assertFalse(is_certified(question, False, ("lap", i, j)))
        for other in (("lap", 11, 62), ("lap", 59, 62), ("lap", -1, 14), ("lap", 14, 11), ("lap", 11, 11), ("lap", "11", 14), ("lop", 11, 14),
                      ("lap", (11,), 14), ["lap", 11, 14], 7, None, "lap", ("ending", 11), ((), 11, 14)):
            self.assertIs(is_certified(question, True, other), False)

    def test_all_laps(self):
        for name, text in LOOPS.items():
            term, inputs = program(text), (4, 5)
            standings, _, _ = plain_free.free_run(term, inputs, 150)
            laps = plain_free.laps(standings)
            question = ("never ends", term, inputs, 150)
            self.assertIs(answer_to(question), True)
            self.assertIn(certified(question)[1][1:], laps)
            source = random.Random(name)
            pairs = laps[:20] + [(source.randrange(151), source.randrange(151)) for _ in range(20)]
            for i, j in pairs:
                self.assertEqual(is_certified(question, True, ("lap", i, j)), (i, j) in laps)
            least = min(j for _, j in laps)
            for ask in (answer_to, certified, lambda told: is_certified(told, True, ("lap", 0, 1))):
                ask(("never ends", term, inputs, least))
                self.assertRaises(Open, ask, ("never ends", term, inputs, least - 1))

    def test_programs_that_end(self):
        for name, term, inputs in programs():
            if name.startswith("endless"):
                continue
            count = run(term, inputs, (10 ** 9, 10 ** 9), 4000)[2]
            self.shows(("never ends", term, inputs, count), False, ("ending", count))
            self.shows(("never ends", term, inputs, count + 300), False, ("ending", count))
            for answer in (True, False):
                self.assertRaises(Open, is_certified, ("never ends", term, inputs, count - 1), answer, ("ending", count))
            self.assertRaises(Open, answer_to, ("never ends", term, inputs, count - 1))
            self.assertRaises(Open, certified, ("never ends", term, inputs, 0))

    def test_open(self):
        for text in GROWING.values():
            self.assertRaises(Open, answer_to, ("never ends", program(text), (), 500))


class Enough(Case):
    def test_both(self):
        source, made = random.Random(1), plain_meaning.Programs(1)
        cases = [(term, inputs) for _, term, inputs in programs()]
        cases += [(renumbered(made.program(source.randrange(1, 5))), (3,)) for _ in range(25)]
        for term, inputs in cases:
            events = needs(term, inputs, 150)
            rooms = [event[3] for event in events if event[0] == "make"]
            most = max(rooms, default=0)
            for room in {0, most, max(most - 1, 0), most + 1, most // 2, 20000}:
                first = next((k for k, event in enumerate(events) if event[0] == "make" and event[3] > room), None)
                if first is None:
                    self.shows(("enough", term, inputs, 150, room), True, ("need", most))
                else:
                    self.shows(("enough", term, inputs, 150, room), False, ("event", first))
        self.shows(("enough", LOOP, (), 0, 0), True, ("need", 0))
        self.shows(("enough", LOOP, (), 100, 2), False, ("event", 1))
        self.shows(("enough", LOOP, (), 100, 3), True, ("need", 3))


class Alike(Case):
    def test_both(self):
        for text, other, road in (("1", "1", None), ("1", "#yes", ()), ("0", "#no", ()), ("()", "0", ()), ("a", "a", None), ("a", "b", ()),
                                  ("(1 2)", "(1 2)", None), ("(1 2)", "(1 3)", (2, 1)), ("(1 2)", "(1 2 3)", (2, 2)), ("(1 . 2)", "(1 2)", (2,)),
                                  ("@0=(1 . @0)", "@0=(1 1 . @0)", None), ("@0=(1 . @0)", "@0=(1 @1=(2 . @0) . @1)", (2, 1)),
                                  ("@0=(1 . @0)", "@0=(1 2 . @0)", (2, 1)), ("@0=(1 . @0)", "(1 1 1 . 2)", (2, 2, 2)), ("(@0=(5) @0)", "((5) (5))", None),
                                  ("(@0=(5) . @0)", "((5) 5)", None), ("((1) 2)", "((#yes) 3)", (1, 1)), ("5", "(5)", ())):
            self.shows(("alike", text, other), road is None, () if road is None else ("road", road))
            self.shows(("alike", other, text), road is None, () if road is None else ("road", road))

    def test_wrong_texts(self):
        for text, other, place in (("(", "", (1, 2)), ("", "(", (1, 1)), ("1", "(1", (1, 3)), ("1 2", "(", (1, 3)), ("1", "@0", (1, 1)), ("1", "#function", (1, 1))):
            for ask in (answer_to, certified, lambda question: is_certified(question, True, ())):
                with self.assertRaises(BadText) as caught:
                    ask(("alike", text, other))
                self.assertEqual(caught.exception.place, place)


if __name__ == "__main__":
    unittest.main()
