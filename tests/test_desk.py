"""[128]: the desk."""

import os
import sys
import unittest

sys.path.insert(0, os.path.dirname(os.path.abspath(__file__)))

from samples import program

from keptrest.desk import Desk
from keptrest.images import image_of
from keptrest.imagetext import image_text
from keptrest.meaning import run, standing_after
from keptrest.session import Session
from keptrest.standings import start

LOOP = "(define (f n) (seq (show n) (f (add n 1)))) (f 0)"
LIMITS = (200, 200)


def run_shown(text):
    """What is shown of 10,000 steps that are not the whole run."""
    _, output, _, _ = run(program(text), (), LIMITS, 10000)
    return "".join(told + " " for told in output) + "..."


class Case(unittest.TestCase):
    def setUp(self):
        self.session = Session(LIMITS)
        self.desk = Desk(self.session)

    def answers(self, *pairs):
        for line, told in pairs:
            self.assertEqual(self.desk.answer(line), told, line)


class Examples(Case):
    def test_examples(self):
        self.answers(("run (prim-none", "error badtext"), ("run (show 1) (show (quote (a b)))", "1 (a b) = ()"))

    def test_endings(self):
        self.answers(("run 5", "= 5"), ("run (show 1) (first 2)", "1 ! kind"), ("run (give-up 1)", "! given up"), ("run (ask)", "! input"),
                     ("run (define (f) (f)) (f)", "..."), ("run (show '(a \"", "error badtext"), ("run 'a", "= a"), ("run #no", "= #no"),
                     ("run (show (show 1)) ()", "1 () = ()"), ("run (define (f n) (pair n (f n))) (f 1)", "! deep"),
                     ("run (define (f l) (f (pair 1 l))) (f ())", "! memory"), ("run (show (pair 1 (pair 2 3))) (fn () 1)", "(1 2 . 3) = #function"))

    def test_the_session_is_used_and_changed(self):
        self.answers(("hold (define a 5)", "ok"), ("run a", "= 5"))
        self.assertEqual(len(self.session), 1)
        self.session.hold("(define b 6)")
        self.answers(("run (add a b)", "= 11"), ("drop", "ok"), ("run b", "error unknownword"), ("undo", "ok"), ("run b", "= 6"))

    def test_runs_of_10000_steps(self):
        text = "(define (f n) (if (below 0 n) (f (less n 1)) (show 1))) (f {})"

        def count(n):
            return run(program(text.format(n)), (), LIMITS, 20000)[2]

        last = (10000 - count(0)) // (count(2) - count(1))
        self.assertLessEqual(count(last), 10000)
        self.assertGreater(count(last + 1), 10001)
        self.answers((f"run {text.format(last)}", "1 = ()"), (f"run {text.format(last + 1)}", run_shown(text.format(last + 1))))
        self.answers((f"start a {text.format(last + 1)}", "ok"), ("go a 100000", "1 = ()"))


class Lines(Case):
    def test_texts_may_be_empty(self):
        self.answers(("hold", "ok"), ("hold ", "ok"), ("hold  ", "ok"), ("run", "error noform"), ("run ", "error noform"), ("run  ", "error noform"),
                     ("start a", "error noform"), ("start a ", "error noform"), ("start a  ", "error noform"), ("hold 7", "ok"), ("run", "= 7"),
                     ("start a", "ok"), ("start b ", "ok"), ("start c  ", "ok"), ("start d 8", "ok"), ("go d 99", "= 8"), ("go a 99", "= 7"))
        image = image_text(image_of(start(program("7"), ())))
        self.answers((f"load x {image}", "ok"), (f"load y {image} ", "ok"), (f"load z {image}  ", "ok"), (f"load w {image}   8", "ok"))
        self.assertEqual(self.session.lots(), ((), (), (), (7,)))
        self.answers(("go x 9", "= 7"))

    def test_what(self):
        self.session.start("a", LOOP, ())
        for line in ("", " ", "  ", "what", "Run 1", "runs 1", " run 1", "start", "start ", "start  1", "start  a 1", "go", "go ", "go a", "go a ", "go a  5",
                     "go  5", "go  a 5", "go a 5 ", "go a 5 6", "go a 05", "go a 00", "go a +5", "go a -1", "go a 5x", "go a 100001", "go a 1000000", "go a 0100000",
                     "go a x", "go a 5.0", "save", "save ", "save  a", "save a ", "save a b", "save a  ", "forget", "forget ", "forget a ", "forget  a",
                     "forget a 5", "load", "load ", "load a", "load a ", "load a  1", "load  () 1", "load  ", "drop  ", "drop x", "drop  x", "undo 1", "undo  ",
                     "redo  ", "redo a", "undone", "=", "!", "...", "hold1", "run(show 1)", "save-a", "go9"):
            self.answers((line, "what"))
        self.assertEqual(self.session.held_runs(), ("a",))
        self.session.undo()
        self.assertEqual(self.session.held_runs(), ())

    def test_one_blank_behind_a_deed(self):
        self.answers(("hold 1", "ok"), ("drop ", "ok"), ("undo ", "ok"), ("undo ", "ok"), ("redo ", "ok"), ("drop", "ok"), ("undo", "ok"), ("redo", "ok"))

    def test_counts(self):
        self.answers((f"start a {LOOP}", "ok"), ("go a 0", "..."), ("go a 20", "0 ..."))
        ending, output, _, _ = run(program(LOOP), (), LIMITS, 60)
        self.answers(("go a 40", "".join(text + " " for text in output[1:]) + "..."))
        self.answers(("start b (define (f) (f)) (f)", "ok"), ("go b 100000", "..."), ("go b 99999", "..."), ("go b 9", "..."))

    def test_names_and_errors(self):
        self.answers(("start A 1", "error badname"), ("start a1 (", "error badname"), ("start abcdefghijklm 1", "error badname"),
                     ("start abcdefghijkl 1", "ok"), ("start abcdefghijkl (", "error nametaken"), ("load abcdefghijkl ( (", "error nametaken"),
                     ("load A ( (", "error badname"), ("go b 1", "error unknownname"), ("go A 1", "error unknownname"), ("save b", "error unknownname"),
                     ("forget b", "error unknownname"), ("drop", "error nothingheld"), ("redo", "error nothingtoredo"), ("undo", "ok"),
                     ("undo", "error nothingtoundo"), ("hold (define a 1)", "ok"), ("hold (define a 1)", "error twicedefined"),
                     ("hold (define if 1)", "error badword"), ("hold (if)", "error badform"), ("run b", "error unknownword"), ("run (add 1)", "error arguments"),
                     ("run (macro m ((_) 1))", "error badrule"), ("run (macro m () ((_) 1)) (m 2)", "error norule"), ("run @", "error badtext"),
                     ("run (macro m () ((_ (a &) (b &)) ((a b) &))) (m (1 2) (3))", "error uneven"),
                     ("run (macro m () ((_) (m))) (m)", "error toomany"), ("load x ( 1", "error badtext"), ("load x () 1", "error noimage"),
                     ("load x #none 1", "error noimage"), ("run " + "(seq 1 " * 70 + ")" * 70, "error toogreat"))

    def test_save_and_load(self):
        self.answers((f"start a {LOOP}", "ok"), ("go a 30", "0 ..."))
        text = image_text(image_of(standing_after(program(LOOP), (), LIMITS, 30)))
        self.answers(("save a", text), (f"load b {text} {LOOP}", "ok"), ("save b", text), ("forget a", "ok"), ("save a", "error unknownname"),
                     (f"load a {text} 5", "error noimage"), (f"load a {text[:-1]} {LOOP}", "error badtext"), (f"load a  {text} {LOOP}", "what"),
                     (f"load a {text}  {LOOP}", "ok"), ("go a 30", "1 2 3 ..."), ("undo", "ok"), ("save a", text))
        great = '(("give",("thing",0)),(),(),(' + ",".join(f'("pair",1,("thing",{k + 1}))' for k in range(100)) + ',("pair",1,1)),())'
        self.answers((f"load c {great} 1", "error toogreat"))
        less = great.replace(',("thing",100)', ',1').replace(',("pair",1,1)),', '),')
        self.answers((f"load c {less} 1", "ok"))


if __name__ == "__main__":
    unittest.main()
