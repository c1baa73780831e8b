"""Standings: words, environments, what is reached."""

from keptrest.frames import linked, words_of_frame, words_of_thing
from keptrest.memory import Memory, reach_of


def kont_words(kont):
    """The words of all frames of a KONT."""
    return sum([words_of_frame(frame) for frame in kont])


def frame_words(frame):
    """The words of a frame."""
    return words_of_frame(frame)


def thing_words(thing):
    """The words of a thing."""
    if thing[0] == "kept":
        return 2 + kont_words(thing[1])
    return words_of_thing(thing)


def cut(env, numbers):
    """An environment cut to a tuple of numbers."""
    wanted = {number: True for number in numbers}
    return tuple([pair for pair in env if pair[0] in wanted])


def start(program, inputs):
    """The first standing of a program with inputs."""
    return (("eval", (), ()), (), (), (), inputs, ())


def reach_in(standing):
    """The reach of a standing."""
    control, kont, winds, store = standing[:4]
    return reach_of(Memory(store), control, linked(kont), winds)


def reached(standing):
    """The addresses that are reached in a standing, ascending."""
    return tuple(sorted(list(reach_in(standing).found)))


def weight(standing):
    """The words of all things that are reached in a standing."""
    return reach_in(standing).total_words()
