"""Going on from images, in the meaning and in the machines."""

from keptrest.errors import NoImage, NoPoint, TooGreat
from keptrest.images import is_image, standing_of
from keptrest.imagetext import image_text, read_image
from keptrest.linkengine import link_engine, link_state
from keptrest.loadedengines import loaded_engine, loaded_link_engine
from keptrest.loading import Loader
from keptrest.matching import told_at
from keptrest.runner import OPEN, Runner, first_image
from keptrest.stackstates import stack_state
from keptrest.standings import weight
from keptrest.telling import Teller


def need_image(program, image):
    """Raises the error of what is no sound image for a program."""
    if not is_image(program, image):
        raise NoImage()


def need_fitting(program, image, limits):
    """Raises the errors of what is no sound image for a program, or needs too much room."""
    need_image(program, image)
    if weight(standing_of(image)) > limits[0]:
        raise TooGreat("room")


def go_on(program, image, limits, steps):
    """(RESULT, IMAGE) of at most so many steps from the standing of an image."""
    need_fitting(program, image, limits)
    runner = Runner(program, limits, standing_of(image))
    runner.take_all(steps)
    return (runner.told(), runner.last_image())


def stopped(program, inputs, limits, stops):
    """The RESULTs of a run that is stopped, saved as a text, read and gone on with again and again."""
    image = first_image(program, inputs)
    results = []
    for steps in stops:
        result, image = go_on(program, image, limits, steps)
        results.append(result)
        if result[0] != OPEN:
            break
        image = read_image(image_text(image))
    return tuple(results)


def state_image(program, code, state):
    """The image of a state of the machine with a stack in one block; None if it stands for no standing."""
    told = told_at(program, code, state)
    return None if told is None else told[0]


def linked_image(program, code, state):
    """The image of a state of the linked machine; None if it stands for no standing."""
    teller = Teller(program, code)
    if not teller.is_named(state[0]):
        return None
    told = teller.image_told(link_engine(code, 0, (), state))
    return None if told is None else told[0]


def need_spot(loader, image):
    """(POINT, its window) for an image; raises the error of an image that no point takes."""
    spot = loader.spot_of_image(image)
    if spot is None:
        control = image[0]
        raise NoPoint(control[1] if control[0] == "eval" else ())
    return spot


def loaded_state(program, code, image, limits):
    """A state of the machine with a stack in one block whose image this is."""
    need_fitting(program, image, limits)
    loader = Loader(code)
    return stack_state(loaded_engine(code, limits, loader, image, need_spot(loader, image)))


def loaded_linked(program, code, image):
    """A state of the linked machine whose image this is."""
    need_image(program, image)
    loader = Loader(code)
    return link_state(loaded_link_engine(code, loader, image, need_spot(loader, image)))


def to_named(program, code, image, limits, steps):
    """(RESULT, IMAGE) of as few steps from an image as lead to one with which a machine can be loaded."""
    need_fitting(program, image, limits)
    loader = Loader(code)
    runner = Runner(program, limits, standing_of(image))
    while runner.ending == OPEN and runner.done < steps and not loader.takes_course(runner.course):
        runner.take()
    return (runner.told(), runner.last_image())
