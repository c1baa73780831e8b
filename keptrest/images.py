"""Images of standings."""

from keptrest.imageform import (has_image_form, kinds_are_right, names_are_right, places_are_right,
                                winds_are_right)
from keptrest.numbering import image_and_order
from keptrest.sameness import same_data
from keptrest.spots import Spots
from keptrest.standings import thing_words

SORTS = ("pair", "box", "fn", "kept", "wind")


def image_of(standing):
    """The image of a standing."""
    return image_and_order(standing)[0]


def standing_of(image):
    """The standing that has the parts of an image, its numbers as addresses."""
    return (*image, ())


def image_fault(program, value):
    """None if a value is a sound image for a program, otherwise the word of the first part that does not hold."""
    if not has_image_form(value):
        return "form"
    spots = Spots(program)
    if not places_are_right(spots, value):
        return "place"
    if not names_are_right(spots, value):
        return "names"
    if not kinds_are_right(spots, value):
        return "kind"
    return None if winds_are_right(value) else "winds"


def is_image(program, value):
    """True for a sound image for a program."""
    return image_fault(program, value) is None


def first_unlike(image, other):
    """None if two images are the same, otherwise the way to the first parts that differ."""
    row = [((), image, other)]
    while row:
        below = []
        for way, one, two in row:
            if type(one) is tuple and type(two) is tuple and len(one) == len(two):
                for k, (part, mate) in enumerate(zip(one, two)):
                    below.append((way + (k,), part, mate))
            elif not same_data(one, two):
                return way
        row = below
    return None


def image_bill(image):
    """(pairs, boxes, functions, kept things, winds, words) of the things of an image."""
    kinds = [thing[0] for thing in image[3]]
    words = sum([thing_words(thing) for thing in image[3]])
    return (*[kinds.count(sort) for sort in SORTS], words)
