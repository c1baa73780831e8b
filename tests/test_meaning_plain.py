"""The meaning and its runs, compared with plain_meaning over many programs."""

import os
import random
import sys
import unittest

sys.path.insert(0, os.path.dirname(os.path.abspath(__file__)))

import plain_meaning as plain

from keptrest.core import core_fault, node_count
from keptrest.meaning import run, standing_after, step, step_words
from keptrest.names import renumbered
from keptrest.standings import cut, frame_words, kont_words, reached, start, thing_words, weight
from keptrest.winds import wind_turns, winds_of, winds_way

MOST = 150


def walk(program, inputs, limits, most):
    """All standings up to a number of steps, the ending or None, the output, the turns of winds."""
    standings = [start(program, inputs)]
    turns = []
    while len(standings) <= most:
        told, more = plain.step(program, limits, standings[-1])
        if told[0] == "ended":
            return standings, told, tuple(turns)
        turns += more
        standings.append(told[1])
    return standings, None, tuple(turns)


class Compared(unittest.TestCase):
    def programs(self):
        source = random.Random(17)
        made = plain.Programs(23)
        found = 0
        while found < 330:
            program = renumbered(made.program(source.randrange(2, 6)))
            if 3 < node_count(program) <= 300:
                found += 1
                yield found, program, tuple(range(source.randrange(4)))

    def limits_for(self, k, program, inputs):
        """Wide limits, and narrow ones that are about what the program needs."""
        free = walk(program, inputs, (20000, 20000), MOST)[0]
        heavy = max(plain.weight(standing) for standing in free)
        deep = max(plain.kont_words(standing[1]) for standing in free)
        source = random.Random(k)
        return ((20000, 20000), (max(0, heavy + source.randrange(-6, 6)), max(0, deep - source.randrange(9))))

    def test_programs(self):
        endings = set()
        for k, program, inputs in self.programs():
            self.assertIsNone(core_fault(program))
            for limits in self.limits_for(k, program, inputs):
                endings.add(self.compare(program, inputs, limits))
        self.assertLessEqual({"end", "open", "memory", "deep", "count", "no function", "given up"}, endings)

    def compare(self, program, inputs, limits):
        standings, ended, turns = walk(program, inputs, limits, MOST)
        for before, after in zip(standings, standings[1:] + [None]):
            if after is None and ended is None:
                break
            self.assertEqual(repr(step(program, limits, before)), repr(ended if after is None else ("on", after)))
        many = MOST if ended is None else len(standings)
        last = standings[-1]
        seen = standings[:many + 1]
        ending = ("open",) if ended is None else ended[1]
        output = last[5] if ended is None else ended[2]
        heavy = max(plain.weight(standing) for standing in seen)
        self.assertEqual(run(program, inputs, limits, MOST), (ending, output, many, heavy))
        self.assertEqual(wind_turns(program, inputs, limits, MOST), turns)
        self.check_standings(program, seen)
        for steps in {0, 1, len(seen) // 2, len(seen) - 1, len(seen)}:
            expected = standings[steps] if steps < len(standings) else None
            if steps <= MOST:
                self.assertEqual(standing_after(program, inputs, limits, steps), expected)
        bodies = plain.bodies(program)
        words = [(s[0][1], plain.kont_words(s[1])) for s in seen if s[0][0] == "eval" and s[0][1] in bodies]
        self.assertEqual(step_words(program, inputs, limits, MOST), tuple(words))
        if ending[0] == "end":
            self.check_turns(turns)
        return ending[1] if ending[0] == "trap" else ending[0]

    def check_standings(self, program, standings):
        for standing in standings[::7]:
            self.assertEqual(reached(standing), plain.reached(standing))
            self.assertEqual(weight(standing), plain.weight(standing))
            self.assertEqual(kont_words(standing[1]), plain.kont_words(standing[1]))
            for frame in standing[1]:
                self.assertEqual(frame_words(frame), plain.frame_words(frame))
            for thing in standing[3]:
                self.assertEqual(thing_words(thing), plain.thing_words(thing))
            self.check_bases(standing)

    def check_bases(self, standing):
        """[42], for the standing and each kept thing."""
        rows = [(standing[1], standing[2])] + [thing[1:] for thing in standing[3] if thing[0] == "kept"]
        for kont, winds in rows:
            inside = [frame[0] for frame in kont].count("inside")
            many = len(winds_of(standing[3], winds))
            self.assertGreaterEqual(many, inside)
            self.assertFalse([frame for frame in kont[1:] if frame[0] in ("leaving", "entering")])
            if not kont or kont[0][0] not in ("leaving", "entering"):
                self.assertEqual(many, inside)

    def check_turns(self, turns):
        """[41]: comings and goings take turns and are equally many at the end."""
        for address in {address for _, address in turns}:
            own = [word for word, other in turns if other == address]
            self.assertEqual(own, ["in", "out"] * (len(own) // 2))


class Addresses(unittest.TestCase):
    """Nothing of a run depends on addresses ([38])."""

    def moved(self, standing, led):
        def lead(value):
            return ("thing", led[value[1]]) if plain.is_thing(value) else value

        def lead_env(env):
            return tuple((n, lead(v)) for n, v in env)

        def lead_frame(frame):
            if frame[0] in ("if", "let", "seq"):
                return (frame[0], frame[1], lead_env(frame[2]))
            if frame[0] == "args":
                return (frame[0], frame[1], tuple(map(lead, frame[2])), lead_env(frame[3]))
            return (*frame[:2], *[lead(value) for value in frame[2:]])

        def lead_thing(thing):
            if thing[0] == "fn":
                return (thing[0], thing[1], lead_env(thing[2]))
            if thing[0] == "kept":
                return ("kept", tuple(map(lead_frame, thing[1])), lead(thing[2]))
            if thing[0] == "wind":
                return (*thing[:2], *map(lead, thing[2:]))
            return (thing[0], *map(lead, thing[1:]))

        control, kont, winds, store, inputs, output = standing
        control = ("eval", control[1], lead_env(control[2])) if control[0] == "eval" else ("give", lead(control[1]))
        things = [None] * len(store)
        for address, thing in enumerate(store):
            things[led[address]] = lead_thing(thing)
        return (control, tuple(map(lead_frame, kont)), lead(winds), tuple(things), inputs, output)

    def test_moved_standings_go_on_alike(self):
        made = plain.Programs(99)
        source = random.Random(2)
        for _ in range(40):
            program = renumbered(made.program(4))
            standing = start(program, (7,))
            for _ in range(80):
                told = step(program, (500, 500), standing)
                many = len(standing[3])
                led = list(range(many))
                source.shuffle(led)
                other = step(program, (500, 500), self.moved(standing, led))
                if told[0] == "ended":
                    self.assertEqual(other, told)
                    break
                led += range(many, len(told[1][3]))
                self.assertEqual(other, ("on", self.moved(told[1], led)))
                standing = told[1]


class Words(unittest.TestCase):
    def test_cut(self):
        env = ((0, 5), (3, ("thing", 1)), (7, ()))
        self.assertEqual(cut(env, (0, 7)), ((0, 5), (7, ())))
        self.assertEqual(cut(env, (7, 3, 9)), ((3, ("thing", 1)), (7, ())))
        self.assertEqual(cut(env, ()), ())
        self.assertEqual(cut((), (1,)), ())

    def test_ways(self):
        source = random.Random(8)
        for _ in range(200):
            store = tuple(("wind", (), 0, 0, source.choice([()] + [("thing", k) for k in range(a)])) for a in range(9))
            one, other = [source.choice([()] + [("thing", k) for k in range(9)]) for _ in range(2)]
            left, entered = winds_way(store, one, other)
            first, second = winds_of(store, one), winds_of(store, other)
            both = [k for k in range(min(len(first), len(second)) + 1) if k == 0 or first[-k:] == second[-k:]]
            longest = max(both)
            self.assertEqual(left, first[:len(first) - longest])
            self.assertEqual(entered, second[:len(second) - longest][::-1])


if __name__ == "__main__":
    unittest.main()
