"""[112] to [118]: going on from images, in the meaning and in both machines."""

import os
import random
import sys
import unittest

sys.path.insert(0, os.path.dirname(os.path.abspath(__file__)))

import plain_meaning
from odd_codes import Odd
from samples import WIDE, call, changed, const, fn, iff, let, prim, program, programs, put, seq, var
from test_codecheck import is_steady

from keptrest.code import named_points
from keptrest.codegen import compiled
from keptrest.core import node_count
from keptrest.errors import NoImage, NoPoint, TooGreat
from keptrest.images import image_fault, image_of, is_image, standing_of
from keptrest.imagetext import image_text, read_image
from keptrest.linked import linked_after, linked_step
from keptrest.machine import is_right, machine_step, sound_fault
from keptrest.matching import match_map, standing_told
from keptrest.meaning import run, standing_after
from keptrest.names import renumbered
from keptrest.passing import turned
from keptrest.runs import state_after
from keptrest.standings import start, weight
from keptrest.stops import go_on, linked_image, loaded_linked, loaded_state, state_image, stopped, to_named

LOOP = let(0, const(()), seq(put(0, fn(call(var(0)))), call(var(0))))
OPEN = ("open",)
ADD = prim("add", const(1), const(2))


def cases(seed, many):
    """(PROGRAM, INPUTS) of samples and of random programs."""
    source, made = random.Random(seed), plain_meaning.Programs(seed)
    found = [(term, inputs) for _, term, inputs in programs()]
    for _ in range(many):
        term = renumbered(made.program(source.randrange(1, 5)))
        if node_count(term) < 90:
            found.append((term, (3, 4, 5)))
    return found


class Case(unittest.TestCase):
    def same(self, one, other):
        self.assertEqual(repr(one), repr(other))

    def raises(self, error, function, *told):
        with self.assertRaises(error) as caught:
            function(*told)
        return caught.exception


class GoingOn(Case):
    def test_example(self):
        image = image_of(standing_after(LOOP, (), WIDE, 11))
        self.same(image, (("eval", (1, 0, 0, 0), ((0, ("thing", 0)),)), (), (),
                          (("box", ("thing", 1)), ("fn", (1, 0, 0), ((0, ("thing", 0)),))), ()))
        self.same(go_on(LOOP, image, WIDE, 3), ((OPEN, (), 3, 3), image))
        self.same(go_on(LOOP, image, WIDE, 0), ((OPEN, (), 0, 3), image))
        self.same(go_on(LOOP, image, (3, 0), 3)[0], (OPEN, (), 3, 3))

    def test_the_end(self):
        image = image_of(start(ADD, ()))
        self.same(go_on(ADD, image, (0, 0), 4)[1], (("give", 2), (("args", (), (1,), ()),), (), (), ()))
        self.same(go_on(ADD, image, (0, 0), 5)[1], (("give", 3), (), (), (), ()))
        self.same(go_on(ADD, image, (0, 0), 6), ((("end", "3"), (), 6, 0), None))
        self.same(go_on(ADD, image, (0, 0), 900), ((("end", "3"), (), 6, 0), None))

    def parts_are_the_run(self, term, inputs, limits, stops):
        """[114]: all parts together are the run."""
        results = stopped(term, inputs, limits, stops)
        counts = [result[2] for result in results]
        whole = run(term, inputs, limits, sum(stops[:len(results)]))
        self.same(results[-1][0], whole[0])
        self.same(sum([result[1] for result in results], ()), whole[1])
        self.assertEqual(sum(counts), whole[2])
        self.assertEqual(max(result[3] for result in results), whole[3])
        for result, steps in zip(results[:-1], stops):
            self.same((result[0], result[2]), (OPEN, steps))
        self.assertEqual(len(results) == len(stops) or results[-1][0] != OPEN, True)

    def test_stops(self):
        source = random.Random(1)
        for term, inputs in cases(1, 40):
            whole = run(term, inputs, WIDE, 400)
            many = whole[2]
            rows = [(0,), (0, 0, many, 5), (many - 1, 1), (many, 3), (1,) * min(many + 2, 60), (many // 3, many // 3, many),
                    tuple(source.randrange(9) for _ in range(50))]
            for stops in rows:
                self.parts_are_the_run(term, inputs, WIDE, stops)
            for limits in ((whole[3], 20000), (max(whole[3] - 1, 0), 20000), (20000, 3), (whole[3] // 2, 2)):
                self.parts_are_the_run(term, inputs, limits, (many // 2, 3, many))
        self.same(stopped(ADD, (), WIDE, ()), ())
        self.same(stopped(ADD, (), WIDE, (3, 900, 5)), ((OPEN, (), 3, 0), (("end", "3"), (), 3, 0)))

    def test_amid_the_way_between_winds(self):
        term = program("(let ((k ()) (n 0)) (seq (wind (fn () (show 1)) (fn () (wind (fn () (show 2)) (fn () (keep (fn (c) (set k c)))) (fn () (show 3))))"
                       " (fn () (show 4))) (set n (add n 1)) (if (below n 3) (k n) (show n))))")
        many = run(term, (), WIDE, 4000)[2]
        kinds = set()
        for m in range(many):
            image = image_of(standing_after(term, (), WIDE, m))
            kinds |= {frame[0] for frame in image[1]}
            self.assertTrue(is_image(term, image))
            self.parts_are_the_run(term, (), WIDE, (m, many))
        self.assertLessEqual({"entering", "inside", "ended", "began"}, kinds)

    def test_errors_in_their_order(self):
        term = prim("pair", prim("pair", const(1), const(2)), const(3))
        image = image_of(standing_after(term, (), WIDE, 8))
        self.assertEqual(weight(standing_of(image)), 2)
        self.same(go_on(term, image, (4, 0), 9)[0], (("end", "((1 . 2) . 3)"), (), 2, 4))
        self.same(go_on(term, image, (2, 0), 9)[0], (("trap", "memory", ()), (), 1, 2))
        self.assertEqual(self.raises(TooGreat, go_on, term, image, (1, 0), 9).what, "room")
        code = compiled(term)
        for ask, told in ((go_on, (term, ADD, (1, 0), 9)), (loaded_state, (term, code, ADD, (0, 0))), (loaded_linked, (term, code, ADD)),
                          (to_named, (term, code, ADD, (0, 0), 3))):
            self.raises(NoImage, ask, *told)
        self.raises(TooGreat, loaded_state, term, code, image, (1, 20000))
        self.raises(TooGreat, to_named, term, code, image, (1, 20000), 0)
        self.raises(NoPoint, loaded_state, term, code, image, (2, 20000))
        self.raises(NoPoint, loaded_linked, term, code, image)

    def test_changed_images(self):
        """One part changed for each of the five words; what is no image at all."""
        text = "(let ((k ())) (wind (fn () 1) (fn () (keep (fn (c) (seq (set k c) (pair c k))))) (fn () 2)))"
        term = program(text)
        image = None
        for m in range(200):
            there = standing_after(term, (), WIDE, m)
            if there is not None and any(thing[0] == "kept" for thing in image_of(there)[3]) and there[1] and there[0][0] == "eval":
                image = image_of(there)
                break
        control, kont, winds, things, inputs = image
        inside = next(k for k, frame in enumerate(kont) if frame[0] == "inside")
        bad = {
            "form": [image[:4], changed(image, 3, things + (("pair", 1, 2),)), changed(image, 2, ("thing", 99)),
                     changed(image, 0, ("give",)), 5, "text", None, (), changed(image, 1, kont + (("other", ()),))],
            "place": [changed(image, 0, ("eval", (9,), control[2])), changed(image, 1, changed(kont, inside, ("inside", ()))),
                      changed(image, 1, kont + (("leaving", (), ("thing", 0), 1),))],
            "names": [changed(image, 0, (*control[:2], control[2] + ((999, 1),))), changed(image, 0, (*control[:2], ()))],
            "kind": [changed(image, 4, (("thing", 0),)), changed(image, 0, (*control[:2], tuple((n, 5) for n, _ in control[2]))),
                     changed(image, 2, control[2][0][1])],
            "winds": [changed(image, 1, kont + (kont[inside],)), changed(image, 1, (kont[inside],) + kont), changed(image, 2, ())],
        }
        self.assertTrue(is_image(term, image))
        for word, images in bad.items():
            for other in images:
                if word != "form":
                    other = image_of((*other, ()))
                self.assertEqual(image_fault(term, other), word)
                self.raises(NoImage, go_on, term, other, (0, 0), 5)
                self.raises(NoImage, loaded_linked, term, compiled(term), other)

    def test_sound_images_nobody_came_to(self):
        """[117]: whoever wrote it, a sound image goes on or ends."""
        source = random.Random(8)
        for term, inputs in cases(8, 15):
            for m in (4, 20, 50):
                there = standing_after(term, inputs, WIDE, m)
                if there is None:
                    continue
                image = image_of(there)
                for _ in range(6):
                    other = self.bent(image, source)
                    if not is_image(term, other):
                        continue
                    (ending, _, count, _), behind = go_on(term, other, WIDE, 40)
                    if ending == OPEN:
                        self.assertTrue(is_image(term, behind))
                    else:
                        self.assertIn(ending[0], ("end", "trap"))
                        self.assertIsNone(behind)

    def bent(self, image, source):
        """An image with one value exchanged, numbered anew."""
        values = [("thing", k) for k in range(len(image[3]))] + [1, True, (), ("name", "a")]

        def walk(part, at):
            if type(part) is not tuple:
                return part
            if part in values and source.random() < 0.1:
                return source.choice(values)
            return tuple(walk(one, at) for one in part)

        try:
            return image_of((*walk(image, None), ()))
        except (IndexError, KeyError, TypeError, ValueError):
            return None


class States(Case):
    def test_images_of_states(self):
        """[118]: where they match, all three have the same image."""
        for term, inputs in cases(2, 12):
            code = compiled(term)
            state = state_after(code, inputs, (*WIDE, ()), 0)
            linked = linked_after(code, inputs, 40000, (), 0)
            names = named_points(code)
            for _ in range(150):
                told = state_image(term, code, state)
                self.assertEqual(told is not None, state[0] in names)
                self.same(linked_image(term, code, linked), told)
                if told is not None:
                    self.same(told, image_of(standing_told(term, code, state)))
                    self.assertTrue(is_image(term, told))
                steps = machine_step(code, (*WIDE, ()), state), linked_step(code, 40000, (), linked)
                if steps[0][0] == "ended" or steps[1][0] == "ended":
                    self.same(steps[0], steps[1])
                    break
                state, linked = steps[0][1], steps[1][1]

    def test_states_that_stand_for_none(self):
        term = let(0, prim("ask"), seq(prim("more"), var(0)))
        rows = (("prim", "ask", (0,), (), 1), ("to", 0, 2), ("prim", "more", (1, 0), (), 3), ("from", 0, 4), ("back",))
        code = (rows, (("eval", (), (), ()), None, ("eval", (1,), (0,), ()), ("give", (("seq", (1,), 0, (0,)),)), None), (), 0)
        state = (2, ("none",), (5,), (), (), (), (), (), 0)
        self.same(state_image(term, code, state), (("eval", (1,), ((0, 5),)), (), (), (), ()))
        for bad in (changed(state, 2, ()), changed(state, 2, (("gone",),)), changed(state, 0, 3), changed(state, 0, 1), changed(state, 0, "back")):
            self.assertIsNone(state_image(term, code, bad))
            self.assertIsNone(linked_image(term, code, bad))
        self.assertIsNotNone(state_image(term, code, changed(changed(state, 0, 3), 1, True)))
        self.assertIsNone(state_image(term, code, changed(changed(state, 0, 3), 1, ("gone",))))


class Loading(Case):
    def loads(self, term, code, image):
        """Both machines loaded; the states, if there is a point."""
        try:
            state = loaded_state(term, code, image, WIDE)
        except NoPoint as why:
            self.same(why.place, image[0][1] if image[0][0] == "eval" else ())
            self.same(self.raises(NoPoint, loaded_linked, term, code, image).place, why.place)
            self.assertFalse(self.is_told(code, image))
            return None
        self.assertTrue(self.is_told(code, image))
        linked = loaded_linked(term, code, image)
        self.assertTrue(is_right(code, state))
        for told in (state, linked):
            self.same((told[7], told[8], told[6]), ((), 0, image[4]))
            self.assertIsNotNone(code[1][told[0]])
        self.same(state_image(term, code, state), image)
        self.same(linked_image(term, code, linked), image)
        self.assertIsNotNone(match_map(term, code, standing_of(image), state))
        return state, linked

    def is_told(self, code, image):
        """Whether there is such a point, by the words of the interface."""
        rows, maps = code[:2]
        kont = image[1]
        returns = {repr(maps[row[1]][1][0][:3]) for row in rows if row[0] == "push"}

        def head(frame):
            return (frame[0], frame[1], len(frame[2]) if frame[0] == "args" else 0)

        def covered(frame):
            return frame[0] in ("began", "inside", "ended", "leaving", "entering") or repr(head(frame)) in returns

        def fits(sources, values, window):
            if len(sources) != len(values):
                return False
            return all(repr(window.setdefault(source, value) if type(source) is int else source[1]) == repr(value)
                       for source, value in zip(sources, values))

        if not all(covered(frame) for thing in image[3] if thing[0] == "kept" for frame in thing[1]):
            return False
        for chart in maps:
            if chart is None or len(chart[-1]) > len(kont):
                continue
            older = kont[:len(kont) - len(chart[-1])]
            window = {}
            if chart[0] == "eval":
                if image[0][:2] != chart[:2] or not fits(chart[2], [value for _, value in image[0][2]], window):
                    continue
            elif image[0][0] != "give":
                continue
            newest = kont[len(older):]
            if all(head(frame) == local[:3] and fits(local[3], plain_meaning.values_of_frame(frame), window)
                   for frame, local in zip(newest, chart[-1])) and all(covered(frame) for frame in older):
                return True
        return False

    def goes_along(self, term, code, states, ahead, whole):
        """Both loaded machines end as the meaning's run does, with the rest of its output."""
        ending, output = whole[:2]
        for state, go in ((states[0], lambda one: machine_step(code, (*WIDE, (1, 3)), one)), (states[1], lambda one: linked_step(code, 50000, (2,), one))):
            for _ in range(600):
                told = go(state)
                if told[0] == "ended":
                    self.same((told[1], ahead + told[2]), (ending, output))
                    break
                state = told[1]

    def test_images_of_runs(self):
        source, odd = random.Random(3), Odd(3)
        found = {"loaded": 0, "not": 0, "ways": 0}
        for k, (term, inputs) in enumerate(cases(3, 60)):
            code = compiled(term)
            if k % 2:
                code = odd.changed(term, code, 12)
            if sound_fault(code) is not None or not is_steady(term, code):
                continue
            whole = run(term, inputs, WIDE, 500)
            for m in sorted({source.randrange(whole[2]) for _ in range(7)}):
                there = standing_after(term, inputs, WIDE, m)
                image = image_of(there)
                found["ways"] += any(frame[0] in ("leaving", "entering") for frame in image[1])
                states = self.loads(term, code, image)
                found["not" if states is None else "loaded"] += 1
                (ending, output, count, _), named = self.named(term, code, image)
                if states is not None:
                    self.same((count, named), (0, image))
                if named is not None:
                    states = self.loads(term, code, named)
                    self.assertIsNotNone(states)
                    if whole[0] != OPEN:
                        self.goes_along(term, code, states, there[5] + output, whole)
                else:
                    self.same((ending, there[5] + output), whole[:2])
        self.assertTrue(all(many > 3 for many in found.values()), found)

    def named(self, term, code, image):
        """to_named, compared with single steps of go_on."""
        told = to_named(term, code, image, WIDE, 400)
        steps = told[0][2]
        self.same(told, go_on(term, image, WIDE, steps))
        if told[1] is not None:
            self.assertTrue(self.is_told(code, told[1]))
            for k in range(steps):
                self.assertFalse(self.is_told(code, go_on(term, image, WIDE, k)[1]))
        return told

    def test_to_named_ends(self):
        """Runs that end ahead of a point, and too few steps."""
        term = prim("add", const(1), prim("add", const(2), const(3)))
        code = compiled(term)
        image = image_of(standing_after(term, (), WIDE, 4))
        self.same(to_named(term, code, image, WIDE, 3), go_on(term, image, WIDE, 3))
        self.same(to_named(term, code, image, WIDE, 90), ((("end", "6"), (), 6, 0), None))
        self.same(to_named(term, code, image, WIDE, 0), ((OPEN, (), 0, 0), image))
        first = image_of(start(term, ()))
        self.same(to_named(term, code, first, WIDE, 90), ((OPEN, (), 0, 0), first))
        memory = prim("pair", const(1), const(2))
        self.same(to_named(memory, compiled(memory), image_of(standing_after(memory, (), WIDE, 2)), (1, 1), 90)[0][0], ("trap", "memory", ()))

    def test_local_frames_and_sources(self):
        """Points with local frames, with constants, and with a slot that is named twice."""
        term = let(0, prim("ask"), prim("add", var(0), iff(prim("more"), const(7), const(8))))
        chart = ("give", (("args", (1,), 1, (0,)),))
        code = compiled(term)
        self.assertIn(chart, code[1])
        image = (("give", True), (("args", (1,), (5,), ()),), (), (), (1,))
        state, _ = self.loads(term, code, image)
        self.same(state[:4], (code[1].index(chart), True, (5,), ()))
        two = let(0, prim("ask"), prim("add", var(0), var(0)))
        rows = (("prim", "ask", (0,), (), 1), ("to", 0, 2), ("prim", "add", (1,), (0, 0), 3), ("back",))
        for told, values in ((("eval", (1, 1), (0,), (("args", (1,), 1, (0,)),)), ((5, 5, True), (5, 6, False), (1, True, False), (True, True, True))),
                             (("eval", (1, 1), (0,), (("args", (1,), 1, (("const", 1),)),)), ((5, 1, True), (5, True, False), (5, 2, False), (1, 1, True)))):
            code = (rows, (("eval", (), (), ()), None, told, None), (), 0)
            for own, done, right in values:
                image = (("eval", (1, 1), ((0, own),)), (("args", (1,), (done,), ()),), (), (), ())
                self.assertTrue(is_image(two, image))
                self.assertEqual(self.loads(two, code, image) is not None, right)

    def test_kept_things_and_winds(self):
        text = ("(let ((k ()) (n 0)) (seq (wind (fn () (show 1)) (fn () (add 1 (keep (fn (c) (seq (set k c) 5))))) (fn () (show 2)))"
                " (set n (add n 1)) (if (below n 3) (k n) n)))")
        term = program(text)
        code = compiled(term)
        whole = run(term, (), WIDE, 4000)
        loaded = kept = 0
        for m in range(whole[2]):
            there = standing_after(term, (), WIDE, m)
            image = image_of(there)
            states = self.loads(term, code, image)
            if states is not None:
                loaded += 1
                kept += any(thing[0] == "kept" for thing in image[3])
                self.goes_along(term, code, states, there[5], whole)
        self.assertGreater(loaded, 10)
        self.assertGreater(kept, 5)

    def test_frames_that_no_return_point_tells(self):
        """A frame in a kept thing, or below the local ones, that the code does not push."""
        term = let(0, const(()), seq(put(0, fn(seq(var(0), prim("add", const(1), prim("more"))))), call(var(0))))
        code = compiled(term)
        body, adding = (1, 0, 0, 0), (1, 0, 0, 0, 1)
        frame = ("args", adding, (1,), ())
        kept = ("kept", (frame,), ())
        good = (("eval", body, ((0, ("thing", 0)),)), (), (), (("box", 5),), ())
        self.assertIsNotNone(self.loads(term, code, good))
        for bad in (changed(good, 1, (frame,)), changed(good, 3, (("box", ("thing", 1)), kept))):
            self.assertTrue(is_image(term, bad))
            self.assertIsNone(self.loads(term, code, bad))

    def test_linked_frames_are_shared(self):
        """KONTs that begin alike share their cells: a loaded machine needs no more room than the one that ran there."""
        text = ("(define saved ()) (define (down n) (if (below 0 n) (add 1 (down (less n 1))) (loop 9)))"
                " (define (loop n) (if (below 0 n) (seq (keep (fn (k) (set saved (pair k saved)))) (loop (less n 1))) (f)))"
                " (define (f) 3) (down 20)")
        term = program(text)
        code = compiled(term)
        whole = run(term, (), WIDE, 5000)
        for m in range(whole[2] - 1, 100, -1):
            there = standing_after(term, (), WIDE, m)
            image = image_of(there)
            if sum(thing[0] == "kept" for thing in image[3]) == 9 and image[0][0] == "eval":
                states = None
                try:
                    states = loaded_linked(term, code, image)
                except NoPoint:
                    continue
                break
        frames = sum(item[0] == "cell" and item[1] == "frame" for item in states[5] if type(item) is tuple and item)
        self.assertLess(frames, 45)
        self.assertGreater(sum(len(thing[1]) for thing in image[3] if thing[0] == "kept"), 180)

    def test_all_three_in_turn(self):
        """Begun in the meaning, saved, loaded in the one machine, saved, loaded in the other one, gone on with in the meaning."""
        source = random.Random(7)
        for term, inputs in cases(7, 25):
            code = compiled(term)
            whole = run(term, inputs, WIDE, 600)
            image, output, ended = image_of(start(term, inputs)), (), None
            for turn in range(9):
                result, image = go_on(term, read_image(image_text(image)), WIDE, source.randrange(12))
                output += result[1]
                if image is not None:
                    result, image = to_named(term, code, image, WIDE, 300)
                    output += result[1]
                if image is None:
                    ended = result[0]
                    break
                if turn % 2:
                    state, go, told = loaded_state(term, code, image, WIDE), lambda one: machine_step(code, (*WIDE, ()), one), state_image
                else:
                    state, go, told = loaded_linked(term, code, image), lambda one: linked_step(code, 50000, (), one), linked_image
                wanted = source.randrange(25)
                while ended is None:
                    image = told(term, code, state)
                    if image is not None and wanted <= 0:
                        output += state[7]
                        break
                    wanted -= 1
                    there = go(state)
                    if there[0] == "ended":
                        ended, output = there[1], output + there[2]
                    else:
                        state = there[1]
                if ended is not None:
                    break
            if ended is None:
                result, _ = go_on(term, image, WIDE, 600)
                ended, output = result[0], output + result[1]
            if whole[0] != OPEN and ended != OPEN:
                self.same((ended, output), whole[:2])

    def test_turned_programs(self):
        term = turned(program("(let ((k ())) (add 1 (keep (fn (c) (seq (set k c) (show 5) 7)))))"))[0]
        code = compiled(term)
        whole = run(term, (), WIDE, 2000)
        for m in range(0, whole[2], 9):
            there = standing_after(term, (), WIDE, m)
            image = image_of(there)
            self.same(go_on(term, image, WIDE, 2000)[0][:2], (whole[0], whole[1][len(there[5]):]))
            states = self.loads(term, code, image)
            if states is not None:
                self.goes_along(term, code, states, there[5], whole)


if __name__ == "__main__":
    unittest.main()
