"""The machine with a stack in one block: its codes, states and single steps."""

from keptrest.collect import heap_map
from keptrest.machineform import has_machine_form
from keptrest.rightness import needed_roots, needs_at, state_is_right
from keptrest.rowneeds import first_unsound, need_masks, needs_value, slots_needed
from keptrest.rowsteps import take_row
from keptrest.sameness import same_data
from keptrest.stackstates import split_stack, stack_engine, stack_state


def is_machine_code(value):
    """True for a machine code."""
    return has_machine_form(value)


def needs(code):
    """For each point the slots that it needs, ascending, and behind them "value" if it needs VALUE."""
    found = []
    for mask in need_masks(code):
        slots = slots_needed(mask)
        found.append((*slots, "value") if needs_value(mask) else slots)
    return tuple(found)


def sound_fault(code):
    """None if a code is sound, otherwise (POINT, WORD) of the first fault."""
    return first_unsound(code)


def begin(code, inputs):
    """The first state."""
    return (code[3], ("none",), (), (), (), (), inputs, (), 0)


def machine_step(code, limits, state):
    """("on", STATE) with the next state, or ("ended", ENDING, OUTPUT)."""
    engine = stack_engine(code, limits, state)
    ending = take_row(engine)
    if ending is not None:
        return ("ended", ending, tuple(engine.output))
    return ("on", stack_state(engine))


def frames_of(stack):
    """The frames (RETURN, WORDS) of a stack, the oldest first."""
    return tuple(split_stack(stack))


def is_right(code, state):
    """True if a state is right for a sound code."""
    return state_is_right(code, state)


def alike_states(code, state, other):
    """The map between two right states that are alike; None if they are not."""
    if not same_data((state[0], state[6], state[7]), (other[0], other[6], other[7])):
        return None
    mask = needs_at(code, state[0])
    return heap_map(needed_roots(mask, state), state[5], needed_roots(mask, other), other[5])
