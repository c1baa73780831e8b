"""Runs without bounds once more, slowly and straight from the words of the document: events, laps, what holds what."""

import plain_meaning
from plain_meaning import Ended, kont_words, reach, roots, thing_words, values_of_frame, values_of_thing

from keptrest.core import term_at
from keptrest.images import image_of
from keptrest.standings import start

NO_BOUND = 10 ** 40


class FreeStep(plain_meaning.Step):
    """A step without bounds; events lack the number of the step."""

    def __init__(self, program, standing):
        super().__init__(program, (NO_BOUND, NO_BOUND), standing)
        self.events = []

    def make(self, thing, place):
        x = sum(thing_words(self.store[a]) for a in reach(self.store, self.roots + self.made))
        self.events.append(("make", place, x + thing_words(thing)))
        return super().make(thing, place)

    def call(self, x, values, p):
        thing = self.store[x[1]] if plain_meaning.is_thing(x) else (None,)
        if thing[0] == "fn":
            _, params, rest, _ = term_at(self.program, thing[1])
            if len(values) == len(params) or (rest is not None and len(values) > len(params)):
                self.events.append(("call", p, kont_words(self.kont)))
        super().call(x, values, p)


def free_run(program, inputs, steps):
    """(standings, events, ending or None) of so many steps of the run without bounds."""
    standings, events = [start(program, inputs)], []
    for s in range(steps):
        doing = FreeStep(program, standings[-1])
        try:
            standings.append(doing.do())
            ended = None
        except Ended as why:
            ended = why.ending
        events += [(word, s, place, number) for word, place, number in doing.events]
        if ended is not None:
            return standings, tuple(events), ended
    return standings, tuple(events), None


def laps(standings):
    """All laps among some standings."""
    images = [repr(image_of(standing)) for standing in standings]
    return [(i, j) for j in range(len(images)) for i in range(j) if images[i] == images[j]]


def root_values(standing):
    control, kont, winds = standing[:3]
    found = {("control",): [value for _, value in control[2]] if control[0] == "eval" else [control[1]], ("winds",): [winds]}
    for k, frame in enumerate(kont):
        found["frame", k] = values_of_frame(frame)
    return found


def held(standing, root):
    values = root_values(standing)
    others = [value for other, more in values.items() if other != root for value in more]
    return tuple(sorted(reach(standing[3], roots(standing)) - reach(standing[3], others)))


def held_by(standing, address):
    store = list(standing[3])
    store[address] = ("box", ())
    return tuple(sorted((reach(standing[3], roots(standing)) - reach(store, roots(standing))) | {address}))


def holder(standing, address):
    """By all that hold it: the one that all the others of them hold."""
    all_held = {x: set(held_by(standing, x)) for x in reach(standing[3], roots(standing))}
    holding = [x for x in all_held if address in all_held[x] and x != address]
    nearest = [x for x in holding if all(x in all_held[y] for y in holding)]
    assert len(nearest) == (1 if holding else 0)
    return nearest[0] if nearest else None
