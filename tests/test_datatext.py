import unittest

from keptrest.datatext import data_text, datum_at, datum_text, is_datum, is_word, place_of, read_data
from keptrest.errors import BadText, NotThere, OutOfRange, TooGreat


def name(word):
    return ("name", word)


def row(*parts, tail=()):
    return ("list", parts, tail)


def nested(depth, inner=1):
    datum = inner
    for _ in range(depth):
        datum = row(datum)
    return datum


class Words(unittest.TestCase):
    def test_lengths(self):
        for length, good in ((0, False), (1, True), (29, True), (30, True), (31, False), (300, False)):
            self.assertIs(is_word("a" * length), good)

    def test_each_sign(self):
        for code in range(0, 300):
            sign = chr(code)
            good = sign in "abcdefghijklmnopqrstuvwxyz0123456789-+*/<>=?!_&:"
            self.assertIs(is_word("a" + sign), good, sign)
            self.assertIs(is_word(sign), good and sign not in "0123456789", sign)

    def test_beginnings(self):
        for word in ("-", "+", "--", "-a", "+a", "-+1", "+-1", "--5", "a1", "*1", "_", "&", ":", "<=?", "-:5"):
            self.assertIs(is_word(word), True, word)
        for word in ("-1", "+1", "-0a", "+9", "1", "1a", "0", "", "A", "aB", "a.b", "a'b", "#yes", "a b", "\u00e9"):
            self.assertIs(is_word(word), False, word)

    def test_no_strings(self):
        for value in (1, True, False, None, (), ("a",), name("a"), 0):
            self.assertIs(is_word(value), False)


class Data(unittest.TestCase):
    def test_constants(self):
        top = 10 ** 30
        for value in (0, 1, -1, top - 1, 1 - top, True, False, (), name("a"), name("a" * 30)):
            self.assertIs(is_datum(value), True, value)
        for value in (top, -top, None, "a", "", name("1"), name("a" * 31), ("name",), ("name", "a", "b"), ("name", 1),
                      (1,), ((),), ("names", "a"), (name("a"),), ("name", ("a",)), ("name", True), ("name", None)):
            self.assertIs(is_datum(value), False, value)

    def test_lists(self):
        for value in (row(1), row(1, 2), row((), tail=1), row(1, tail=name("x")), row(True, tail=False), row(row(1))):
            self.assertIs(is_datum(value), True, value)
        wrong = (("list", (), ()), ("list", (), 1), row(1, tail=row(2)), ("list", [1], ()), ("list", (1,)), ("list", 1, ()),
                 ("list", (1,), (), ()), row(None), row(1, tail=None), row(1, tail=10 ** 30), row("a"), row(1, tail="a"), ("lists", (1,), ()), ("name", (1,), ()), (("list",), (1,), ()),
                 ("list", None, ()), ("list", "ab", ()), ("list", True, ()), row(row(1, 2, tail=row(3))))
        for value in wrong:
            self.assertIs(is_datum(value), False, value)

    def test_depth(self):
        self.assertIs(is_datum(nested(100)), True)
        self.assertIs(is_datum(nested(101)), False)
        self.assertIs(is_datum(nested(99, row(1, row(2), tail=3))), False)
        self.assertIs(is_datum(nested(98, row(1, row(2), tail=3))), True)
        self.assertIs(is_datum(nested(490)), False)


class Reading(unittest.TestCase):
    def check(self, text, *data):
        self.assertEqual(repr(read_data(text)), repr(data))

    def fault(self, text, *place):
        with self.assertRaises(BadText) as caught:
            read_data(text)
        self.assertEqual(caught.exception.place, place, text[:60])

    def test_ordinary(self):
        self.check("")
        self.check(" \n ; only this")
        self.check("1 -1 0 #yes #no () a", 1, -1, 0, True, False, (), name("a"))
        self.check("(a b)(c)d", row(name("a"), name("b")), row(name("c")), name("d"))
        self.check("(a (b) . c)", row(name("a"), row(name("b")), tail=name("c")))
        self.check("( )(\n)", (), ())
        self.check("(a . #yes)(a . #no)(a . 1)(a . 0)", *[row(name("a"), tail=tail) for tail in (True, False, 1, 0)])
        self.check("a;b c\nd ;", name("a"), name("d"))
        self.check("(1;)\n)", row(1))

    def test_one_form_of_lists(self):
        for text in ("(1 2 . x)", "(1 . (2 . x))", "( 1 .(2\n. x) )"):
            self.check(text, row(1, 2, tail=name("x")))
        self.check("(1 . ())", row(1))
        self.check("(1 . (2 . (3 . (4 5))))", row(1, 2, 3, 4, 5))
        self.check("(1 . ((2) . (3)))", row(1, row(2), 3))

    def test_quotes(self):
        quote = name("quote")
        self.check("'a", row(quote, name("a")))
        self.check("''a", row(quote, row(quote, name("a"))))
        self.check("'()", row(quote, ()))
        self.check("(a 'b c)", row(name("a"), row(quote, name("b")), name("c")))
        self.check("(a . 'b)", row(name("a"), quote, name("b")))
        self.check("' ; and\n 5", row(quote, 5))

    def test_integers(self):
        self.check("9" * 30, 10 ** 30 - 1)
        self.check("-" + "9" * 30, 1 - 10 ** 30)
        for text in ("9" * 31, "-" + "9" * 31, "1" + "0" * 30, "-0", "00", "05", "-05", "+5", "+0", "5a", "-5a", "1.5"):
            self.fault("x " + text, 1, 3)

    def test_runs_that_are_not_good(self):
        for run in ("#", "#ye", "#yess", "#yes#no", "..", ".5", "a.", "A", "aB", '"', "a" * 31, "\\", "#function", "~",
                    "a,b", "[", "{", "`", "|", "^", "$"):
            self.fault("(" + run + " )", 1, 2)

    def test_examples(self):
        self.fault("(a . b c)", 1, 8)
        self.fault("(a", 1, 3)
        self.fault("(a 05)", 1, 4)

    def test_characters_that_may_not_stand(self):
        for sign in ("\t", "\r", "\x00", "\x1f", "\x7f", "\u00e9", "\u4e00", "\U0001f600", "\u2028"):
            self.fault("a\nab" + sign, 2, 3)
            self.fault("a ; x" + sign + "\n", 1, 6)
            self.fault(";" + sign, 1, 2)
            self.fault(sign, 1, 1)
            self.fault("(" + sign + ")", 1, 2)

    def test_all_that_may_stand_behind_a_semicolon(self):
        signs = "".join(chr(code) for code in range(32, 127))
        self.check(";" + signs + "\n5 ;" + signs + signs, 5)

    def test_a_bad_run_comes_ahead_of_a_bad_character_behind_it(self):
        self.fault("05\t", 1, 1)
        self.fault("ab\t", 1, 3)

    def test_brackets(self):
        self.fault(")", 1, 1)
        self.fault("()\n )", 2, 2)
        self.fault("(a . )", 1, 6)
        self.fault("(a .)", 1, 5)
        self.fault("')", 1, 2)
        self.fault("(')", 1, 3)
        self.fault("(a . ')", 1, 7)

    def test_points(self):
        for text, column in ((".", 1), ("(.", 2), ("(. a)", 2), ("(a . . b)", 6), ("a . b", 3), ("'. a", 2),
                             ("(a ' . b)", 6), ("(a . b . c)", 8), ("() . a", 4), ("(a . (. b))", 7)):
            self.fault(text, 1, column)

    def test_behind_a_tail(self):
        for what in ("a", "5", "(", "'", ".", "@0", "@0=", "#yes", "05", "@", "\t"):
            self.fault("(a . b " + what + ")", 1, 8)
        self.fault("(a . (b) c)", 1, 10)

    def test_labels(self):
        for label in ("@0", "@0=", "@12345", "@", "@00", "@01", "@123456", "@a", "@=", "@-1"):
            self.fault("(a " + label + " b)", 1, 4)
            self.fault(label, 1, 1)

    def test_ends(self):
        self.fault("(", 1, 2)
        self.fault("'", 1, 2)
        self.fault("(a . ", 1, 6)
        self.fault("(a\n", 2, 1)
        self.fault("(a ; b", 1, 7)
        self.fault("(a)\n(b\n  ", 3, 3)
        self.fault("(a . b", 1, 7)

    def test_two_faults(self):
        self.fault("(a 05\n)) (", 1, 4)
        self.fault(") 05", 1, 1)
        self.fault("(a . b c) \t", 1, 8)
        self.fault("; \t\n)", 1, 3)
        self.fault("(05 ; \t", 1, 2)

    def test_open_ones(self):
        for many in range(98, 104):
            for signs in ("(" * many, "'" * many, "(" * (many - 1) + "'", ("('" * many)[:many], "'" * (many - 1) + "("):
                closes = ")" * signs.count("(")
                if many > 100:
                    self.fault(signs, 1, 101)
                    self.fault(signs + "x" + closes, 1, 101)
                else:
                    self.fault(signs, 1, many + 1)
                    self.assertEqual(len(read_data(signs + "x" + closes)), 1)

    def test_quotes_close_with_their_datum(self):
        self.assertEqual(len(read_data("'x " * 200)), 200)
        self.assertEqual(read_data("(" * 99 + "'x 'y" + ")" * 99)[0][0], "list")
        self.fault("(" * 100 + "'x", 1, 101)
        self.fault("(" * 99 + "''x", 1, 101)

    def test_an_empty_list_counts_as_open(self):
        read_data("(" * 99 + "()" + ")" * 99)
        self.fault("(" * 100 + "()" + ")" * 100, 1, 101)

    def test_lengths_of_texts(self):
        self.assertEqual(len(read_data("a " * 50000)), 50000)
        with self.assertRaises(TooGreat) as caught:
            read_data("a " * 50000 + " ")
        self.assertEqual(caught.exception.what, "text")
        with self.assertRaises(TooGreat):
            read_data(")" + " " * 100000)
        self.fault(")" + " " * 99999, 1, 1)

    def test_equal_calls(self):
        text = "(a 'b . #yes)"
        self.assertEqual(read_data(text), read_data(text))


def plain(datum):
    return datum_text(datum)


def slow_layout(datum, column, brackets, width):
    """Laid out straight from the words of the document."""
    text = plain(datum)
    if type(datum) is not tuple or datum == () or datum[0] == "name":
        return text
    if column - 1 + len(text) + brackets <= width:
        return text
    rows = []
    for k, item in enumerate(datum[1]):
        last = k == len(datum[1]) - 1 and datum[2] == ()
        rows.append(slow_layout(item, column + 1, brackets + 1 if last else 0, width))
    if datum[2] != ():
        rows.append(". " + plain(datum[2]))
    return "(" + ("\n" + " " * column).join(rows) + ")"


class Writing(unittest.TestCase):
    def test_plain_texts(self):
        for text in ("()", "5", "-5", "#yes", "#no", "abc", "(a)", "(a . b)", "(a (b . 5) () #no . #yes)", "((()))"):
            self.assertEqual(datum_text(read_data(text)[0]), text)
        self.assertEqual(datum_text(read_data("'a")[0]), "(quote a)")
        self.assertEqual(datum_text(True), "#yes")
        self.assertEqual(datum_text(1), "1")
        self.assertEqual(datum_text(0), "0")

    def test_example(self):
        data = read_data("(define (swap a b) (pair b a))")
        self.assertEqual(data_text(data, 20), "(define\n (swap a b)\n (pair b a))")
        self.assertEqual(data_text(data, 30), "(define (swap a b) (pair b a))")
        self.assertEqual(data_text(data, 29), "(define\n (swap a b)\n (pair b a))")

    def test_no_data_and_several(self):
        self.assertEqual(data_text((), 20), "")
        self.assertEqual(data_text((1, (), name("a")), 20), "1\n()\na")

    def test_just_fits(self):
        fits = "(aaaaaaaa bbbbbbbbb)"
        self.assertEqual(len(fits), 20)
        self.assertEqual(data_text(read_data(fits), 20), fits)
        self.assertEqual(data_text(read_data("(aaaaaaaa bbbbbbbbbb)"), 20), "(aaaaaaaa\n bbbbbbbbbb)")

    def test_brackets_behind_count(self):
        text = "(aaaaaaaaaaaaaa (bbbbbbbb cccccccc))"
        self.assertEqual(data_text(read_data(text), 20), "(aaaaaaaaaaaaaa\n (bbbbbbbb\n  cccccccc))")
        text = "(aaaaaaaaaaaaaa (bbbbbbb cccccccc))"
        self.assertEqual(data_text(read_data(text), 20), "(aaaaaaaaaaaaaa\n (bbbbbbb cccccccc))")
        text = "(aaaaaaaaaaaaaa (bbbbbbbb cccccccc) d)"
        self.assertEqual(data_text(read_data(text), 20), "(aaaaaaaaaaaaaa\n (bbbbbbbb cccccccc)\n d)")

    def test_tails(self):
        text = "(aaaaaaaaaaaaaa bbbbbbbbbb . cccc)"
        self.assertEqual(data_text(read_data(text), 20), "(aaaaaaaaaaaaaa\n bbbbbbbbbb\n . cccc)")
        text = "(aaaaaaaaaaaaaa (bbbbbbbb cccccccc) . d)"
        self.assertEqual(data_text(read_data(text), 20), "(aaaaaaaaaaaaaa\n (bbbbbbbb cccccccc)\n . d)")

    def test_widths(self):
        data = read_data("(a b)")
        for width in (20, 200):
            self.assertEqual(data_text(data, width), "(a b)")
        for width in (19, 201, 0, -1, 10 ** 20):
            with self.assertRaises(OutOfRange) as caught:
                data_text(data, width)
            self.assertEqual(caught.exception.value, width)

    def test_wide(self):
        fits = "(" + "a" * 30 + " b" * 84 + ")"
        self.assertEqual(len(fits), 200)
        self.assertEqual(data_text(read_data(fits), 200), fits)
        self.assertEqual(data_text(read_data(fits), 199).count("\n"), 84)

    def samples(self):
        words = ("a", "bbbb", "cccccccccc", "#yes", "-12345")
        texts = []
        for k in range(60):
            first = words[k % 5] + " " + words[k // 5 % 5]
            inner = "(" + " ".join(words[(k * j + j) % 5] for j in range(k % 7 + 1)) + ")"
            tail = " . " + words[k % 3] if k % 4 == 0 else ""
            texts.append("(" + first + " " + inner + " (" + inner + " " + inner + tail + ")" + tail + ")")
        return texts + ["(" * 60 + "x" * 25 + " y" + ")" * 60, "(" * 60 + "()" + " . y)" * 60]

    def test_against_the_words_of_the_document(self):
        for text in self.samples():
            data = read_data(text)
            for width in (20, 21, 25, 33, 60, 200):
                self.assertEqual(data_text(data, width), slow_layout(data[0], 1, 0, width))

    def test_written_and_read(self):
        for text in self.samples():
            data = read_data(text)
            for width in (20, 27, 40, 200):
                self.assertEqual(repr(read_data(data_text(data, width))), repr(data))
            self.assertEqual(read_data(datum_text(data[0])), data)

    def test_no_row_is_too_long_without_need(self):
        for text in self.samples():
            for line in data_text(read_data(text), 20).split("\n"):
                if len(line) > 20:
                    bare = line.strip(" ")
                    bare = bare[2:] if bare.startswith(". ") else bare
                    self.assertNotIn(" ", bare)

    def test_deep(self):
        data = (nested(100),)
        self.assertEqual(read_data(data_text(data, 20)), data)
        self.assertEqual(read_data(data_text(data, 200)), data)


class Paths(unittest.TestCase):
    TEXT = "(a (b 5 . c) ())\n  'x (1 . (2 (3) . 4))\n#yes"

    def places(self, data, path=()):
        found = [path]
        parts = data
        if path:
            if type(data) is not tuple or data == () or data[0] == "name":
                return found
            parts = data[1] if data[2] == () else (*data[1], data[2])
        for k, part in enumerate(parts):
            found += self.places(part, path + (k,))
        return found

    def test_datum_at(self):
        data = read_data(self.TEXT)
        self.assertEqual(datum_at(data, ()), data)
        self.assertEqual(datum_at((), ()), ())
        self.assertEqual(datum_at(data, (0,)), data[0])
        self.assertEqual(datum_at(data, (0, 1, 2)), name("c"))
        self.assertEqual(datum_at(data, (1, 0)), name("quote"))
        self.assertEqual(datum_at(data, (2, 2, 0)), 3)
        self.assertEqual(datum_at(data, (2, 3)), 4)
        self.assertIs(datum_at(data, (3,)), True)

    def test_paths_that_lead_nowhere(self):
        data = read_data(self.TEXT)
        for path in ((4,), (0, 3), (0, 2, 0), (0, 0, 0), (0, 1, 3), (0, 1, 2, 0), (3, 0), (9, 9), (2, 4), (1, 2)):
            with self.assertRaises(NotThere) as caught:
                datum_at(data, path)
            self.assertEqual(caught.exception.path, path)
            with self.assertRaises(NotThere) as caught:
                place_of(self.TEXT, path)
            self.assertEqual(caught.exception.path, path)

    def test_place_of(self):
        expected = {(0,): (1, 1), (0, 0): (1, 2), (0, 1): (1, 4), (0, 1, 0): (1, 5), (0, 1, 1): (1, 7), (0, 1, 2): (1, 11),
                    (0, 2): (1, 14), (1,): (2, 3), (1, 0): (2, 3), (1, 1): (2, 4), (2,): (2, 6), (2, 0): (2, 7),
                    (2, 1): (2, 12), (2, 2): (2, 14), (2, 2, 0): (2, 15), (2, 3): (2, 20), (3,): (3, 1)}
        data = read_data(self.TEXT)
        self.assertEqual(set(self.places(data)) - {()}, set(expected))
        for path, place in expected.items():
            self.assertEqual(place_of(self.TEXT, path), place, path)

    def test_place_of_nothing(self):
        for text in ("", "a"):
            with self.assertRaises(NotThere) as caught:
                place_of(text, ())
            self.assertEqual(caught.exception.path, ())

    def test_a_quote_in_a_tail(self):
        text = "(a . 'b)"
        self.assertEqual([place_of(text, (0, k)) for k in range(3)], [(1, 2), (1, 6), (1, 7)])

    def test_place_of_raises_as_read_data(self):
        with self.assertRaises(BadText) as caught:
            place_of("(a", (5,))
        self.assertEqual(caught.exception.place, (1, 3))
        with self.assertRaises(TooGreat):
            place_of("a" + " " * 100000, ())


if __name__ == "__main__":
    unittest.main()
