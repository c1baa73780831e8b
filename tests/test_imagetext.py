"""[116]: texts of images, and reading them."""

import os
import sys
import unittest

sys.path.insert(0, os.path.dirname(os.path.abspath(__file__)))

from samples import WIDE, programs

from keptrest.errors import BadText
from keptrest.images import image_of
from keptrest.imagetext import image_text, read_image
from keptrest.meaning import standing_after

EXAMPLE = (("give", 2), (("args", (), (1,), ()),), (), (), ())
SIGNS = "()\",#-0129yesnox ~."


def plain_place(text):
    """None for a right text, otherwise the place of its fault; as a machine that reads sign by sign."""
    states = ["value"]
    at = 0
    while at < len(text):
        sign = text[at]
        state = states[-1]
        if state[0] == "n":
            # ("n", low, digits)
            if sign.isdigit() and sign.isascii():
                digits = state[2] + sign
                if len(digits) > 30 or (len(digits) > 1 and digits[0] == "0") or (state[1] and digits == "0"):
                    return at
                states[-1] = ("n", state[1], digits)
                at += 1
                continue
            if state[2] == "":
                return at
            states[-1] = "done"
            continue
        if state[0] == "#":
            longer = state[1] + sign
            if any(word.startswith(longer) for word in ("#yes", "#no", "#none")):
                states[-1] = ("#", longer)
                at += 1
                continue
            if state[1] not in ("#yes", "#no", "#none"):
                return at
            states[-1] = "done"
            continue
        if state[0] == "s":
            if sign == '"':
                states[-1] = "done"
            elif " " <= sign <= "~" and state[1] < 30:
                states[-1] = ("s", state[1] + 1)
            else:
                return at
            at += 1
            continue
        if state == "done":
            states.pop()
            if not states:
                return at
            kind, many = states[-1]
            if sign == "," and (kind, many + 1) != ("t", 0):
                states[-1] = (kind, many + 1)
                states.append("more")
            elif sign == ")" and many + 1 >= 2:
                states[-1] = "done"
            else:
                return at
            at += 1
            continue
        # a value may begin here: "value" (at the top or behind a bracket) or "more" (behind a comma)
        if sign == "(" and len(states) <= 100:
            states[-1] = ("t", 0)
            states.append("first")
        elif sign == ")" and (state == "first" or (state == "more" and states[-2][1] == 1)):
            states.pop()
            states[-1] = "done"
        elif sign == '"':
            states[-1] = ("s", 0)
        elif sign == "#":
            states[-1] = ("#", "#")
        elif sign == "-":
            states[-1] = ("n", True, "")
        elif sign.isdigit() and sign.isascii():
            states[-1] = ("n", False, sign)
        else:
            return at
        at += 1
    last = states[-1]
    ended = last == "done" or (last[0] == "n" and last[2] != "") or last in (("#", "#yes"), ("#", "#no"), ("#", "#none"))
    return None if ended and len(states) == 1 else len(text)


class Case(unittest.TestCase):
    def same(self, one, other):
        self.assertEqual(repr(one), repr(other))

    def bad(self, text, place):
        with self.assertRaises(BadText, msg=text) as caught:
            read_image(text)
        self.assertEqual(caught.exception.place, place, text)


class Writing(Case):
    def test_example(self):
        text = '(("give",2),(("args",(),(1,),()),),(),(),())'
        self.assertEqual(image_text(EXAMPLE), text)
        self.same(read_image(text), EXAMPLE)

    def test_each_kind(self):
        for data, text in ((0, "0"), (-5, "-5"), (True, "#yes"), (False, "#no"), (None, "#none"), ("", '""'), ("put first", '"put first"'),
                           ((), "()"), ((1,), "(1,)"), ((True, 1), "(#yes,1)"), (((),), "((),)"), (((), (), ()), "((),(),())"),
                           (("#yes", None), '("#yes",#none)'), ((("a",),), '(("a",),)'), (10 ** 30 - 1, "9" * 30), (1 - 10 ** 30, "-" + "9" * 30),
                           ("~ !" * 10, '"' + "~ !" * 10 + '"')):
            self.assertEqual(image_text(data), text)
            self.same(read_image(text), data)

    def test_deep_data(self):
        data = ()
        for _ in range(400):
            data = (data,)
        self.assertEqual(image_text(data), "(" * 401 + ")" + ",)" * 400)

    def test_images_of_runs(self):
        for name, program, inputs in programs():
            for steps in (0, 1, 7, 20, 45, 80):
                standing = standing_after(program, inputs, WIDE, steps)
                if standing is not None:
                    image = image_of(standing)
                    self.same(read_image(image_text(image)), image)
                    self.assertNotIn(" ", image_text(image))


class Reading(Case):
    def test_examples(self):
        for text, place in (("(1)", 2), ("-0", 1), ("(1,2,)", 5), ("", 0), ("()()", 2)):
            self.bad(text, place)

    def test_integers(self):
        self.same(read_image("1" * 30), int("1" * 30))
        self.same(read_image("-" + "1" * 30), -int("1" * 30))
        for text, place in (("1" * 31, 30), ("-" + "1" * 31, 31), ("01", 1), ("00", 1), ("-", 1), ("--1", 1), ("-01", 1), ("+1", 0), ("1 ", 1),
                            (" 1", 0), ("1.", 1), ("(-0,)", 2), ("(1,01)", 4), ("1-", 1)):
            self.bad(text, place)

    def test_strings(self):
        self.same(read_image('"' + "a" * 30 + '"'), "a" * 30)
        for text, place in (('"' + "a" * 31 + '"', 31), ('"' + "a" * 31, 31), ('"' + "a" * 30, 31), ('"', 1), ('"a', 2), ('"a"b', 3), ('"a""', 3),
                            ('"\n"', 1), ('"a\x7f"', 2), ('"\u00e9"', 1), ("'a'", 0)):
            self.bad(text, place)

    def test_signed_words(self):
        for text, place in (("#", 1), ("#y", 2), ("#ye", 3), ("#yess", 4), ("#n", 2), ("#non", 4), ("#nonx", 4), ("#nox", 3), ("#nones", 5), ("#x", 1),
                            ("#Yes", 1), ("#no#no", 3), ("(#no#", 4), ("(#non,", 5), ("(#no", 4)):
            self.bad(text, place)
        self.same(read_image("(#no,#none,#yes)"), (False, None, True))

    def test_brackets(self):
        self.same(image_text(read_image("(" * 100 + ")" + ",)" * 99)), "(" * 100 + ")" + ",)" * 99)
        for text, place in (("(" * 101 + ")", 100), ("(" * 100, 100), ("(" * 101, 100), (")", 0), (",", 0), ("(,", 1), ("(,)", 1), ("(1,,", 3), ("(1 ,)", 2),
                            ("(1,", 3), ("(1,2", 4), ("(1,2))", 5), ("((1,)", 5), ("((1,),)(", 7), ("()(", 2), ("() ", 2), ("\n", 0)):
            self.bad(text, place)
        self.same(read_image("((),)" ), ((),))

    def test_texts_cut_short_and_changed(self):
        texts = [image_text(EXAMPLE), '(1,-20,#none,(#yes,),"a b",())', "((#no,),)"]
        for text in texts:
            for at in range(len(text)):
                self.told(text[:at])
                self.told(text[:at] + text[at + 1:])
                for sign in SIGNS:
                    self.told(text[:at] + sign + text[at + 1:])
                    self.told(text[:at] + sign + text[at:])
            self.told(text + text)
            self.bad(text + text, len(text))
            for at in range(1, len(text)):
                self.bad(text[:at], at)

    def told(self, text):
        place = plain_place(text)
        if place is None:
            self.assertEqual(image_text(read_image(text)), text)
        else:
            self.bad(text, place)


if __name__ == "__main__":
    unittest.main()
