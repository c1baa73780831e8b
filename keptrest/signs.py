"""Symbolic words: constants and signs, and what is told by constants alone.

Within walks True and False are written as strings, which are no constants otherwise: so words that are equal
are the same. A standing is (CONTROL, FRAMES) with CONTROL ("eval", SPOT, WORDS) or ("give", W), frames as in moves.
"""

from keptrest.calls import has_count
from keptrest.prims import do_prim

YES = "yes"
NO = "no"
VALUE = ("value",)
ASKING_PRIMS = ("ask", "more", "show", "pair", "keep", "wind", "give up")


def written(word):
    """A symbolic word as walks write it."""
    if type(word) is bool:
        return YES if word else NO
    return word


def plain_word(word):
    """A symbolic word that walks have written, as it is outside of them."""
    if type(word) is str:
        return word == YES
    return word


def plain_words(words):
    return tuple([plain_word(word) for word in words])


def is_sign(word):
    """True for a sign, False for a constant."""
    return type(word) is tuple and word != () and word[0] != "name"


def signs_in(words):
    """The ascending tuple of the signs among some words, each once."""
    found = {word: True for word in words if is_sign(word)}
    return tuple(sorted(list(found)))


def constant_told(name, words):
    """What a prim with these words does if it is a constant prim, as do_prim tells it; otherwise None."""
    if name in ASKING_PRIMS or any([is_sign(word) for word in words]):
        return None
    told = do_prim(name, plain_words(words), ())
    return (told[0], written(told[1])) if told[0] == "give" else told


def head_of_call(place, words, sure):
    """The head and the words of the end of a walk at a call; sure leads signs to the fns that they stand for."""
    if not is_sign(words[0]):
        return ("stop", "no function", place), ()
    if words[0] not in sure:
        return ("call", place), words
    spot = sure[words[0]]
    if has_count(spot.node, len(words) - 1):
        return ("known", place, spot.place), words
    return ("stop", "count", place), ()


def told_event(head, words, roots):
    """An event or an end as it is told outside of walks."""
    word = head[0]
    told = plain_words(words)
    if word in ("open", "fill", "test", "keep", "back", "stop"):
        return (*head, *told)
    return (*head, told) if roots is None else (*head, told, roots)
