"""Runs of the machine with a stack in one block."""

from keptrest.rowsteps import OPEN, take_row, take_rows
from keptrest.stackstates import first_engine, stack_state


def machine_run(code, inputs, limits, steps):
    """(ENDING, OUTPUT, COUNT, MAKINGS, COLLECTIONS, LONGEST) of a run of at most so many steps."""
    engine = first_engine(code, limits, inputs)
    ending = OPEN
    count = 0
    longest = 0
    while count < steps and ending == OPEN:
        ended = take_row(engine)
        count += 1
        if ended is not None:
            ending = ended
        elif engine.stack_length() > longest:
            longest = engine.stack_length()
    return (ending, tuple(engine.output), count, engine.made, engine.collections, longest)


def state_after(code, inputs, limits, steps):
    """The state behind so many steps; None if the run has ended by then."""
    engine = first_engine(code, limits, inputs)
    return stack_state(engine) if take_rows(engine, steps)[0] == OPEN else None


def making_words(code, inputs, limits, steps):
    """(PLACE, WORDS, SIZE) of each making of a run of at most so many steps."""
    engine = first_engine(code, limits, inputs)
    engine.measure()
    take_rows(engine, steps)
    return tuple(list(zip(engine.places, engine.lives.weights(), engine.sizes)))
