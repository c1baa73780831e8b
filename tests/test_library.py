"""[101] to [104]: the prompt programs of the library, in three ways and on the machine."""

import itertools
import os
import random
import sys
import unittest

sys.path.insert(0, os.path.dirname(os.path.abspath(__file__)))

from keptrest.codegen import compiled
from keptrest.library import (cell_inputs, cell_program, cell_told, choice_inputs, choices_program, choices_told, fringe_program,
                              fringe_told, leaves_program, leaves_told, task_inputs, tasks_program, tasks_told, tree_inputs)
from keptrest.meaning import run
from keptrest.names import is_plain
from keptrest.passing import turned
from keptrest.prompts import is_prompt_program, plain_of_prompts, prompt_run
from keptrest.runs import machine_run
from keptrest.terms import nodes_of

WIDE = (20000, 20000)
YES, NO, NOTHING = ("end", "#yes"), ("end", "#no"), ("end", "()")
PROGRAMS = {"leaves": leaves_program, "fringe": fringe_program, "choices": choices_program, "tasks": tasks_program, "cell": cell_program}
GREAT = 10 ** 20
LEAVES = (0, 1, -7, 10 ** 29, True, False, (), ("name", "a"), ("name", "put-first"))


def leaf(value):
    return ("leaf", value)


def left(leaves):
    tree = leaf(leaves[0])
    for value in leaves[1:]:
        tree = ("two", tree, leaf(value))
    return tree


def right(leaves):
    tree = leaf(leaves[-1])
    for value in leaves[-2::-1]:
        tree = ("two", leaf(value), tree)
    return tree


def any_tree(leaves, source):
    if len(leaves) == 1:
        return leaf(leaves[0])
    k = source.randrange(1, len(leaves))
    return ("two", any_tree(leaves[:k], source), any_tree(leaves[k:], source))


class Case(unittest.TestCase):
    @classmethod
    def setUpClass(cls):
        cls.prompts = {name: make() for name, make in PROGRAMS.items()}
        cls.plain = {name: plain_of_prompts(program)[0] for name, program in cls.prompts.items()}
        cls.turned = {name: turned(program)[0] for name, program in cls.plain.items()}
        cls.codes = {name: compiled(program) for name, program in cls.plain.items()}

    def same(self, one, other):
        self.assertEqual(repr(one), repr(other))

    def shows(self, name, inputs, told, few=True):
        """The program shows what is told, in all ways; with few inputs, within the steps of [104]."""
        ending, output, count = prompt_run(self.prompts[name], inputs, 10000 if few else 100000)
        self.same((ending, output), told)
        self.same(run(self.plain[name], inputs, WIDE, 40000 if few else 100000)[:2], told)
        if few:
            self.same(run(self.turned[name], inputs, WIDE, 100000)[:2], told)
        self.same(machine_run(self.codes[name], inputs, (*WIDE, ()), 100000)[:2], told)


class Programs(Case):
    def test_they_are_prompt_programs(self):
        for name, program in self.prompts.items():
            self.assertTrue(is_prompt_program(program), name)
            self.assertTrue(is_plain(program))
            names = {term[1] for term in nodes_of(program) if term[0] == "prim"}
            self.assertLessEqual({"prompt", "take"}, names)
            self.assertFalse({"keep", "wind"} & names)

    def test_they_are_fixed(self):
        for name, make in PROGRAMS.items():
            self.same(make(), self.prompts[name])


class Trees(Case):
    def test_inputs(self):
        tree = ("two", leaf(5), ("two", leaf(True), leaf(())))
        self.same(tree_inputs(tree), (1, 0, 5, 1, 0, True, 0, ()))
        self.same(tree_inputs(leaf(1)), (0, 1))

    def test_leaves(self):
        self.same(leaves_told(leaf(())), (NOTHING, ("()",)))
        self.same(leaves_told(left(LEAVES)), (NOTHING, ("0", "1", "-7", "1" + "0" * 29, "#yes", "#no", "()", "a", "put-first")))
        source = random.Random(1)
        for value in LEAVES:
            self.shows("leaves", tree_inputs(leaf(value)), leaves_told(leaf(value)))
        for many in range(1, 10):
            for tree in (left(LEAVES[:many]), right(LEAVES[:many]), any_tree(LEAVES[:many], source)):
                self.shows("leaves", tree_inputs(tree), leaves_told(tree))
        for tree in (left(range(41)), right(range(41)), any_tree(range(60), source)):
            self.shows("leaves", tree_inputs(tree), (NOTHING, tuple(str(k) for k in range(len(leaves_told(tree)[1])))), False)

    def test_example_of_the_fringe(self):
        one, other = left((1, 2)), left((1, 2, 3))
        told = (NO, ("1", "1", "2", "2", "3"))
        self.same(fringe_told(one, other), told)
        self.shows("fringe", tree_inputs(one) + tree_inputs(other), told)
        self.same(fringe_told(other, one), told)

    def test_no_leaf_of_a_later_turn(self):
        self.same(fringe_told(left((1, 2, 3)), left((1, 5, 3))), (NO, ("1", "1", "2", "5")))
        self.same(fringe_told(left((1, 2)), leaf(True)), (NO, ("1", "#yes")))
        self.same(fringe_told(leaf(()), leaf(())), (YES, ("()", "()")))

    def test_the_same_fringe_in_other_forms(self):
        source = random.Random(2)
        for many in (1, 2, 5, 9):
            leaves = [source.choice(LEAVES) for _ in range(many)]
            trees = [left(leaves), right(leaves), any_tree(leaves, source)]
            for one, other in itertools.product(trees, repeat=2):
                told = fringe_told(one, other)
                self.assertEqual(told[0], YES)
                self.assertEqual(len(told[1]), 2 * many)
                self.shows("fringe", tree_inputs(one) + tree_inputs(other), told)

    def test_other_fringes(self):
        source = random.Random(3)
        for many in (1, 2, 5, 8):
            leaves = [source.choice(LEAVES) for _ in range(many)]
            at = source.randrange(many)
            changed = leaves[:at] + [source.choice((99, 1, 0, True, False))] + leaves[at + 1:]
            for others in (leaves + [0], leaves[:-1] or [7], changed, leaves[:at] + [()] + leaves[at:]):
                one, other = any_tree(leaves, source), any_tree(others, source)
                told = fringe_told(one, other)
                self.assertEqual(told[0] == YES, repr(leaves) == repr(others))
                self.shows("fringe", tree_inputs(one) + tree_inputs(other), told)
        for value, like in ((1, True), (0, False), (False, 0), (True, 1)):
            self.shows("fringe", (0, value, 0, like), fringe_told(leaf(value), leaf(like)))
            self.assertEqual(fringe_told(leaf(value), leaf(like))[0], NO)

    def test_great_trees(self):
        one, other = left(range(30)), right(range(30))
        self.shows("fringe", tree_inputs(one) + tree_inputs(other), fringe_told(one, other), False)


class Choices(Case):
    def test_inputs(self):
        self.same(choice_inputs(((1, 1), (), (2,)), ("sum", 3)), (3, 2, 1, 1, 0, 1, 2, ("name", "sum"), 3))
        self.same(choice_inputs((), ("rising",)), (0, ("name", "rising")))
        self.same(choice_inputs(((),), ("unlike",)), (1, 0, ("name", "unlike")))

    def test_examples(self):
        for lists, test, text in ((((1, 1), (2,)), ("rising",), "((1 2) (1 2))"), ((), ("rising",), "(())"), ((), ("unlike",), "(())"),
                                  ((), ("sum", 0), "(())"), ((), ("sum", 1), "()"), (((),), ("sum", 0), "()"),
                                  (((1, 2), ()), ("unlike",), "()"), (((), (1, 2)), ("rising",), "()"),
                                  (((3, 1, 2),), ("rising",), "((3) (1) (2))"), (((3, 1, 2),), ("sum", 1), "((1))"),
                                  (((1, 2), (2, 1)), ("unlike",), "((1 2) (2 1))"), (((1, 2), (2, 1)), ("sum", 3), "((1 2) (2 1))"),
                                  (((GREAT,), (-GREAT,), (GREAT,), (GREAT,)), ("sum", 2 * GREAT), f"(({GREAT} -{GREAT} {GREAT} {GREAT}))"),
                                  (((1,), (1,)), ("rising",), "()"), (((1,), (2,), (1,)), ("unlike",), "()")):
            self.same(choices_told(lists, test), (("end", text), ()))
            self.shows("choices", choice_inputs(lists, test), (("end", text), ()))

    def test_all_forms(self):
        source = random.Random(4)
        shapes = [shape for many in range(5) for shape in itertools.product(range(6), repeat=many) if sum(shape) <= 12]
        for shape in source.sample(shapes, 60) + [(4, 3, 1, 1), (4, 4, 4, 0), (5, 5, 2, 0)]:
            rows = 1
            for many in shape:
                rows *= many
            if rows > 12:
                continue
            lists = tuple(tuple(source.randrange(-3, 4) for _ in range(many)) for many in shape)
            unlike = tuple(tuple(10 * k + j for j in range(many)) for k, many in enumerate(shape))
            for test in (("sum", 1), ("rising",), ("unlike",)):
                self.shows("choices", choice_inputs(lists, test), choices_told(lists, test))
                self.shows("choices", choice_inputs(unlike, test), choices_told(unlike, test))

    def test_told_by_all_rows(self):
        source = random.Random(5)
        for _ in range(50):
            lists = tuple(tuple(source.randrange(-2, 3) for _ in range(source.randrange(4))) for _ in range(source.randrange(4)))
            rows = list(itertools.product(*lists))
            goal = source.randrange(-3, 4)
            tests = {("sum", goal): lambda row: sum(row) == goal, ("rising",): lambda row: all(a < b for a, b in zip(row, row[1:])),
                     ("unlike",): lambda row: all(a != b for a, b in itertools.combinations(row, 2))}
            for test, passes in tests.items():
                text = "(" + " ".join("(" + " ".join(map(str, row)) + ")" for row in rows if passes(row)) + ")"
                self.assertEqual(choices_told(lists, test), (("end", text), ()))


class Tasks(Case):
    def test_inputs(self):
        self.same(task_inputs(((5, 6), (), (7,))), (3, 2, 5, 6, 0, 1, 7))
        self.same(task_inputs(()), (0,))

    def test_examples(self):
        for rows, output in (((), ()), (((),), ()), (((), ()), ()), (((1,),), ("1",)), (((1, 2, 3), (4,), (), (5, 6)), ("1", "4", "5", "2", "6", "3")),
                             (((-GREAT,), (0, 0)), (f"-{GREAT}", "0", "0"))):
            self.same(tasks_told(rows), (NOTHING, output))
            self.shows("tasks", task_inputs(rows), (NOTHING, output))

    def test_many(self):
        source = random.Random(6)
        for _ in range(25):
            rows = tuple(tuple(source.randrange(100) for _ in range(source.randrange(4))) for _ in range(source.randrange(6)))
            self.shows("tasks", task_inputs(rows), tasks_told(rows))
        for rows in (((1,) * 8, (2,) * 6), ((1, 2, 3), (4, 5, 6), (7, 8, 9), (10, 11, 12), (13, 14))):
            self.shows("tasks", task_inputs(rows), tasks_told(rows))
        rows = tuple(tuple(range(k, k + 8)) for k in range(5))
        self.shows("tasks", task_inputs(rows), tasks_told(rows), False)


class Cells(Case):
    def test_inputs(self):
        self.same(cell_inputs((("put", 1), ("show",), ("add", -2))), (("name", "put"), 1, ("name", "show"), ("name", "add"), -2))
        self.same(cell_inputs(()), ())

    def test_examples(self):
        for steps, text, output in (((), "0", ()), ((("show",),), "0", ("0",)), ((("put", 5), ("show",), ("add", -7), ("show",)), "-2", ("5", "-2")),
                                    ((("add", 1), ("add", 2), ("put", 9)), "9", ()), ((("put", 10 ** 30 - 1), ("show",)), str(10 ** 30 - 1), (str(10 ** 30 - 1),))):
            self.same(cell_told(steps), (("end", text), output))
            self.shows("cell", cell_inputs(steps), (("end", text), output))

    def test_many(self):
        source = random.Random(7)
        for many in list(range(11)) + [60]:
            steps = tuple(source.choice((("put", source.randrange(-9, 9)), ("add", source.randrange(-GREAT, GREAT)), ("show",))) for _ in range(many))
            self.shows("cell", cell_inputs(steps), cell_told(steps), many <= 10)


if __name__ == "__main__":
    unittest.main()
