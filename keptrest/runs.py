"""Runs of the machine with a stack in one block."""

from keptrest.rowsteps import take_row
from keptrest.stackstates import first_engine, stack_state


def machine_run(code, inputs, limits, steps):
    """(ENDING, OUTPUT, COUNT, MAKINGS, COLLECTIONS, LONGEST) of a run of at most so many steps."""
    engine = first_engine(code, limits, inputs)
    ending = None
    count = 0
    longest = 0
    while count < steps and ending is None:
        ending = take_row(engine)
        count += 1
        if ending is None and engine.link is not None and engine.link.words > longest:
            longest = engine.link.words
    if ending is None:
        ending = ("open",)
    return (ending, tuple(engine.output), count, engine.made, engine.collections, longest)


def state_after(code, inputs, limits, steps):
    """The state behind so many steps; None if the run has ended by then."""
    engine = first_engine(code, limits, inputs)
    for _ in range(steps):
        if take_row(engine) is not None:
            return None
    return stack_state(engine)


def making_words(code, inputs, limits, steps):
    """(PLACE, WORDS, SIZE) of each making of a run of at most so many steps."""
    engine = first_engine(code, limits, inputs)
    engine.measure()
    for _ in range(steps):
        if take_row(engine) is not None:
            break
    return tuple(list(zip(engine.places, engine.lives.weights(), engine.sizes)))
