"""[125] to [127]: sessions, their deeds, undoing, blocks."""

import os
import random
import sys
import unittest

sys.path.insert(0, os.path.dirname(os.path.abspath(__file__)))

from samples import program

from keptrest.datatext import read_data
from keptrest.errors import (BadForm, BadLimits, BadName, BadText, KeptrestError, NameTaken, NoForm, NoImage, NothingHeld, NothingToRedo,
                             NothingToUndo, TooGreat, TwiceDefined, UnknownName, UnknownWord)
from keptrest.expander import expanded
from keptrest.images import image_of
from keptrest.imagetext import image_text
from keptrest.meaning import run, standing_after
from keptrest.session import Session
from keptrest.standings import start

LIMITS = (2000, 2000)
LOOP = "(define (f n) (seq (show n) (f (add n 1)))) (f 0)"
OTHER = "(define (g n) (seq (show n) (g (add n 1)))) (g 0)"


def copied(session):
    """A session that was led to the same by another way: one lot after the other, images loaded."""
    other = Session(session.limits)
    for lot in session.lots():
        other.facts = (other.facts[0] + (lot,), other.facts[1])
    other.facts = (other.facts[0], dict(session.facts[1]))
    return other


class Case(unittest.TestCase):
    def same(self, one, other):
        self.assertEqual(repr(one), repr(other))

    def raises(self, error, function, *told):
        with self.assertRaises(error) as caught:
            function(*told)
        self.assertIs(type(caught.exception), error)
        return caught.exception

    def equal(self, one, other):
        self.assertTrue(one == other)
        self.assertFalse(one != other)

    def unequal(self, one, other):
        self.assertFalse(one == other)
        self.assertTrue(one != other)


class Limits(Case):
    def test_wrong_limits(self):
        for limits in ((), (1,), (1, 2, 3), [1, 2], (True, 1), (1, False), (1, None), ("1", 2), (-1, 5), (5, -1), (20001, 0), (0, 20001), 5, None,
                       "ab", (1, (2,)), ((), ()), ((1, 2),)):
            self.same(self.raises(BadLimits, Session, limits).value, limits)
        for limits in ((0, 0), (20000, 20000), (1, 0)):
            self.assertEqual(len(Session(limits)), 0)

    def test_runs_have_the_limits(self):
        self.same(Session((1, 9)).run("(pair 1 2)", (), 100), run(program("(pair 1 2)"), (), (1, 9), 100))
        self.same(Session((1, 9)).run("(pair 1 2)", (), 100)[0], ("trap", "memory", ()))
        self.same(Session((9, 0)).run("(add 1 ((fn () 2)))", (), 100)[0], ("trap", "deep", (1,)))


class Lots(Case):
    def test_lots_go_into_each_program(self):
        session = Session(LIMITS)
        self.assertIsNone(session.hold("(define (twice x) (add x x))"))
        session.hold("(show 7) (define a 5)")
        self.assertEqual(len(session), 2)
        self.same(session.lots(), (read_data("(define (twice x) (add x x))"), read_data("(show 7) (define a 5)")))
        whole = "(define (twice x) (add x x)) (show 7) (define a 5) (twice a)"
        self.same(session.program("(twice a)"), program(whole))
        self.same(session.run("(twice a)", (), 1000), run(program(whole), (), LIMITS, 1000))
        self.same(session.run("(ask)", (4,), 1000)[:2], (("end", "4"), ("7",)))
        self.same(session.run("", (), 1000)[0], ("end", "()"))
        self.assertIsNone(session.drop())
        self.assertEqual(len(session), 1)
        self.raises(UnknownWord, session.program, "(twice a)")

    def test_macros_alone(self):
        """A lot without a define and an expression can be held, but is no program."""
        session = Session(LIMITS)
        session.hold("(macro or () ((_ a b) (if a a b)))")
        session.hold("")
        session.hold("; nothing")
        self.same(session.lots()[1:], ((), ()))
        self.raises(NoForm, session.program, "")
        self.raises(NoForm, session.run, "", (), 5)
        self.raises(NoForm, session.start, "a", "", ())
        self.same(session.run("(or #no 3)", (), 100)[0], ("end", "3"))

    def test_a_word_defined_twice(self):
        session = Session(LIMITS)
        session.hold("(define a 1)")
        for deed in (session.hold, session.program):
            self.assertEqual(self.raises(TwiceDefined, deed, "(define a 2)").word, "a")
        self.raises(TwiceDefined, session.hold, "(macro a ())")
        self.assertEqual(len(session), 1)
        session.drop()
        session.hold("(define a 2)")
        self.same(session.run("a", (), 100)[0], ("end", "2"))

    def test_errors_of_texts(self):
        session = Session(LIMITS)
        session.hold("(define a 1)")
        self.assertEqual(self.raises(BadText, session.hold, "(a").place, (1, 3))
        self.assertEqual(self.raises(BadForm, session.hold, "a (if 1)").path, (2,))
        self.assertEqual(self.raises(UnknownWord, session.program, "b").path, (1,))
        self.assertEqual(self.raises(TooGreat, session.hold, " " * 100001).what, "text")
        self.assertEqual(self.raises(TooGreat, session.hold, "(seq " + "1 " * 500 + ")").what, "nodes")
        self.raises(NothingHeld, Session(LIMITS).drop)
        self.same(session.lots(), (read_data("(define a 1)"),))

    def test_uses_and_nodes_of_all_lots_count(self):
        session = Session(LIMITS)
        text = "1"
        for _ in range(7):
            text = f"(pair {text} {text})"
        session.hold(text)
        self.assertEqual(self.raises(TooGreat, session.hold, text).what, "nodes")
        self.assertEqual(len(session), 1)


class HeldRuns(Case):
    def test_start_and_go(self):
        session = Session(LIMITS)
        self.assertIsNone(session.start("a", "(show (ask)) (show (ask)) (ask)", (1, True, 3)))
        self.assertIsNone(session.start("b", LOOP, ()))
        self.same(session.held_runs(), ("a", "b"))
        self.same(session.go("a", 0), (("open",), (), 0))
        self.same(session.go("a", 5), (("open",), ("1",), 5))
        self.same(session.held_runs(), ("a", "b"))
        self.same(session.go("a", 900)[:2], (("end", "3"), ("#yes",)))
        self.same(session.held_runs(), ("b",))
        self.same(self.raises(UnknownName, session.go, "a", 1).name, "a")
        self.assertIsNone(session.forget("b"))
        self.same(session.held_runs(), ())

    def test_pieces_are_the_run(self):
        source = random.Random(1)
        session = Session(LIMITS)
        for text, inputs in ((LOOP, ()), ("(define (sum s) (if (more) (seq (show s) (sum (add s (ask)))) s)) (sum 0)", (1, 2, 3, 4)),
                             ("(wind (fn () (show 1)) (fn () (pair 1 (keep (fn (k) (k 5))))) (fn () (show 2)))", ())):
            session.start("a", text, inputs)
            output, count, ending = (), 0, ("open",)
            for turn in range(30):
                if ending != ("open",):
                    break
                ending, more, steps = session.go("a", source.randrange(25))
                output, count = output + more, count + steps
                if ending == ("open",) and turn % 3 == 0:
                    saved = session.saved("a")
                    session.forget("a")
                    session.load("a", text, saved)
            self.same((ending, output, count), run(program(text), inputs, LIMITS, count)[:3])
            if ending == ("open",):
                session.forget("a")

    def test_saved_and_load(self):
        session = Session(LIMITS)
        session.start("a", LOOP, ())
        session.go("a", 40)
        text = session.saved("a")
        self.same(text, image_text(image_of(standing_after(program(LOOP), (), LIMITS, 40))))
        self.assertIsNone(session.load("b", LOOP, text))
        self.same(session.saved("b"), text)
        self.same(session.go("a", 33), session.go("b", 33))

    def test_names(self):
        session = Session(LIMITS)
        session.start("abcdefghijkl", "1", ())
        for name in ("", "abcdefghijklm", "A", "a1", "a b", "a-b", 5, None, True, ("a",), "\u00e9", ["a"]):
            self.same(self.raises(BadName, session.start, name, "(", ()).name, name)
            self.same(self.raises(BadName, session.load, name, "(", "x").name, name)
        for deed, told in ((session.start, ("(", ())), (session.load, ("(", "x"))):
            self.same(self.raises(NameTaken, deed, "abcdefghijkl", *told).name, "abcdefghijkl")
        for name in ("z", "", "abcdefghijklm", "A"):
            for deed, told in ((session.go, (5,)), (session.saved, ()), (session.forget, ())):
                self.same(self.raises(UnknownName, deed, name, *told).name, name)

    def test_errors_in_their_order(self):
        session = Session((3, 3))
        good = image_text(image_of(start(program("(pair 1 2)"), ())))
        self.assertEqual(self.raises(BadText, session.start, "a", "(", ()).place, (1, 2))
        self.raises(NoForm, session.start, "a", "", ())
        self.raises(UnknownWord, session.load, "a", "b", "(")
        self.raises(BadText, session.load, "a", "(", "(")
        self.assertEqual(self.raises(BadText, session.load, "a", "1", good + ")").place, len(good))
        self.assertEqual(self.raises(BadText, session.load, "a", "1", "").place, 0)
        for bad in ("()", "5", '(("eval",(9,),()),(),(),(),())', '(("give",1),(),(),(("pair",1,1),),())'):
            self.raises(NoImage, session.load, "a", "(pair 1 2)", bad)
        great = '(("give",("thing",0)),(),(),(("pair",1,("thing",1)),("pair",1,1)),())'
        self.assertEqual(self.raises(TooGreat, session.load, "a", "(pair 1 2)", great).what, "room")
        self.raises(NoImage, session.load, "a", "5", great.replace('"pair",1,1', '"pair",1'))
        self.assertIsNone(session.load("a", "(pair 1 2)", good))
        self.assertIsNone(Session((4, 0)).load("a", "(pair 1 2)", great))
        self.same(session.held_runs(), ("a",))

    def test_programs_of_held_runs_stay(self):
        """What is held later, or dropped, does not change a run that was started."""
        session = Session(LIMITS)
        session.hold("(define (f) 5)")
        session.start("a", "(f)", ())
        session.drop()
        session.hold("(define (f) 6)")
        session.start("b", "(f)", ())
        self.same((session.go("a", 99)[0], session.go("b", 99)[0]), (("end", "5"), ("end", "6")))


class Undoing(Case):
    def deeds(self, session):
        """A deed of each sort, by name."""
        image = image_text(image_of(start(session.program("1"), ())))
        return {"hold": lambda: session.hold("(define z 1)"), "drop": session.drop, "start": lambda: session.start("m", "(f)", ()),
                "go": lambda: session.go("k", 7), "go 0": lambda: session.go("k", 0), "go to the end": lambda: session.go("e", 900),
                "load": lambda: session.load("n", "1", image), "forget": lambda: session.forget("k")}

    def session(self):
        session = Session(LIMITS)
        session.start("k", OTHER, ())
        session.start("e", "5", ())
        session.hold("(define (f) 5)")
        session.undo()
        session.redo()
        return session

    def test_each_deed(self):
        for name in self.deeds(self.session()):
            session = self.session()
            before = copied(session)
            deed = self.deeds(session)[name]
            deed()
            after = copied(session)
            if name != "go 0":
                self.unequal(before, after)
            self.assertIsNone(session.undo())
            self.equal(session, before)
            self.assertIsNone(session.redo())
            self.equal(session, after)
            self.raises(NothingToRedo, session.redo)
            for _ in range(4):
                session.undo()
            self.raises(NothingToUndo, session.undo)
            self.equal(session, Session(LIMITS))
            for _ in range(4):
                session.redo()
            self.equal(session, after)

    def test_nothing_to_undo(self):
        session = Session(LIMITS)
        self.raises(NothingToUndo, session.undo)
        self.raises(NothingToRedo, session.redo)
        session.hold("1")
        self.raises(NothingToRedo, session.redo)
        session.undo()
        self.raises(NothingToUndo, session.undo)
        session.redo()
        self.equal(session, copied(session))

    def test_a_new_change_leaves_nothing_to_redo(self):
        session = Session(LIMITS)
        session.hold("1")
        session.hold("2")
        session.undo()
        session.hold("3")
        self.raises(NothingToRedo, session.redo)
        self.same(session.lots(), ((1,), (3,)))
        session.undo()
        session.undo()
        self.same(session.lots(), ())

    def test_go_of_no_steps_is_a_change(self):
        session = Session(LIMITS)
        session.start("a", LOOP, ())
        session.hold("1")
        session.undo()
        session.go("a", 0)
        self.raises(NothingToRedo, session.redo)
        session.undo()
        self.same(session.held_runs(), ("a",))
        session.undo()
        self.same(session.held_runs(), ())

    def test_errors_change_nothing(self):
        session = self.session()
        session.undo()
        before = copied(session)
        for deed, told in ((session.hold, ("(",)), (session.hold, ("(if)",)), (session.start, ("K", "1", ())), (session.start, ("k", "1", ())),
                           (session.start, ("x", "(", ())), (session.go, ("x", 5)), (session.forget, ("x",)), (session.saved, ("x",)),
                           (session.load, ("x", "1", "(")), (session.load, ("x", "1", "()")), (session.run, ("(", (), 5)), (session.program, ("",)),
                           (session.drop, ())):
            with self.assertRaises(KeptrestError):
                deed(*told)
            self.equal(session, before)
        session.redo()
        self.assertEqual(len(session), 1)

    def test_answers_are_no_changes(self):
        session = Session(LIMITS)
        session.start("a", LOOP, ())
        session.run("1", (), 5)
        session.program("1")
        session.saved("a")
        session.lots()
        session.held_runs()
        session.undo()
        self.raises(NothingToUndo, session.undo)

    def test_many_random_deeds(self):
        """Undone and redone at random, compared with a row of all that was."""
        source = random.Random(2)
        session = Session(LIMITS)
        row, at = [copied(session)], 0
        for turn in range(300):
            kind = source.randrange(8)
            if kind == 0 and at:
                session.undo()
                at -= 1
            elif kind == 1 and at + 1 < len(row):
                session.redo()
                at += 1
            elif kind > 1:
                name = source.choice("abc")
                try:
                    if kind == 2:
                        session.hold(f"(define a{turn} 1)")
                    elif kind == 3:
                        session.drop()
                    elif kind < 6:
                        session.start(name, LOOP if source.random() < 0.5 else "(show 1)", ())
                    elif kind == 6:
                        session.go(name, source.randrange(9))
                    else:
                        session.forget(name)
                except KeptrestError:
                    pass
                else:
                    row[at + 1:] = [copied(session)]
                    at += 1
            self.equal(session, row[at])
        self.assertGreater(len(row), 20)


class Equality(Case):
    def test_other_ways(self):
        one, other = Session(LIMITS), Session(LIMITS)
        self.equal(one, other)
        one.hold("(define a 1)")
        self.unequal(one, other)
        other.hold("5")
        other.drop()
        other.hold(" (define a\n1) ; the same")
        self.equal(one, other)
        one.start("a", LOOP, ())
        one.start("b", "1", ())
        other.start("b", "1", ())
        other.start("a", LOOP, ())
        self.equal(one, other)
        one.go("a", 9)
        self.unequal(one, other)
        for _ in range(9):
            other.go("a", 1)
        self.equal(one, other)
        loaded = Session(LIMITS)
        loaded.hold("(define a 1)")
        loaded.load("a", LOOP, one.saved("a"))
        loaded.start("b", "1", ())
        self.equal(loaded, one)

    def test_what_differs(self):
        self.unequal(Session((1, 2)), Session((2, 1)))
        pairs = (("1", "#yes"), ("0", "#no"), ("'a", "'b"))
        for text, other in pairs:
            one, two = Session(LIMITS), Session(LIMITS)
            one.hold(text)
            two.hold(other)
            self.unequal(one, two)
            one, two = Session(LIMITS), Session(LIMITS)
            one.start("a", text, ())
            two.start("a", other, ())
            self.unequal(one, two)
        one, two = Session(LIMITS), Session(LIMITS)
        one.start("a", "(ask)", (1,))
        two.start("a", "(ask)", (True,))
        self.unequal(one, two)
        two.forget("a")
        two.start("b", "(ask)", (1,))
        self.unequal(one, two)
        one, two = Session(LIMITS), Session(LIMITS)
        one.hold("1 2")
        two.hold("1")
        two.hold("2")
        self.unequal(one, two)

    def test_with_anything(self):
        session = Session(LIMITS)
        for other in (None, 0, (), "", LIMITS, {}, [], Session, object()):
            self.unequal(session, other)
            self.assertFalse(other == session)

    def test_listed_methods_are_its_own(self):
        for name in ("hold", "drop", "lots", "program", "run", "start", "go", "saved", "load", "forget", "held_runs", "undo", "redo",
                     "__init__", "__eq__", "__ne__", "__len__", "__enter__", "__exit__"):
            self.assertIn(name, vars(Session))

    def test_not_hashed(self):
        self.assertRaises(TypeError, hash, Session(LIMITS))
        self.assertIsNone(Session.__hash__)


class Blocks(Case):
    def test_all_is_taken_back(self):
        session = Session(LIMITS)
        session.hold("1")
        session.hold("2")
        session.undo()
        session.start("a", LOOP, ())
        session.start("c", "1", ())
        session.undo()
        before = copied(session)
        with session as inner:
            self.assertIs(inner, session)
            session.go("a", 50)
            session.hold("3")
            session.drop()
            session.drop()
            session.undo()
            session.start("b", "1", ())
        self.equal(session, before)
        session.redo()
        self.same(session.held_runs(), ("a", "c"))
        session.undo()
        session.undo()
        self.same((session.lots(), session.held_runs()), (((1,),), ()))
        session.undo()
        self.raises(NothingToUndo, session.undo)

    def test_undo_beyond_the_beginning_of_the_block(self):
        session = Session(LIMITS)
        session.hold("1")
        with session:
            session.undo()
            self.assertEqual(len(session), 0)
            session.start("a", "1", ())
        self.same((session.lots(), session.held_runs()), (((1,),), ()))
        self.raises(NothingToRedo, session.redo)
        session.undo()
        self.raises(NothingToUndo, session.undo)

    def test_errors_go_on(self):
        session = Session(LIMITS)
        session.hold("1")
        before = copied(session)
        with self.assertRaises(NothingHeld):
            with session:
                session.drop()
                session.drop()
        self.equal(session, before)
        with self.assertRaises(ZeroDivisionError):
            with session:
                session.hold("2")
                1 // 0
        self.equal(session, before)
        session.undo()
        self.assertEqual(len(session), 0)

    def test_blocks_in_one_another(self):
        session = Session(LIMITS)
        session.hold("1")
        with session:
            session.hold("2")
            with session:
                session.hold("3")
                with self.assertRaises(KeyError):
                    with session:
                        session.undo()
                        session.undo()
                        session.undo()
                        raise KeyError("x")
                self.assertEqual(len(session), 3)
            self.same(session.lots(), ((1,), (2,)))
            session.undo()
            self.same(session.lots(), ((1,),))
        self.same(session.lots(), ((1,),))
        session.hold("4")
        with session:
            session.hold("5")
        self.same(session.lots(), ((1,), (4,)))
        session.undo()
        session.redo()
        self.same(session.lots(), ((1,), (4,)))


if __name__ == "__main__":
    unittest.main()
