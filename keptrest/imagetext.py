"""Texts of images, and of all data, and reading them."""

from keptrest.errors import BadText
from keptrest.tokens import MOST_DIGITS, is_digit

MOST_OPEN = 100
LONGEST_STRING = 30
MARK = '"'
SIGNED_WORDS = (("#yes", True), ("#no", False), ("#none", None))


def plain_text(value):
    """The text of a piece of data that is no tuple."""
    if value is None:
        return "#none"
    if type(value) is bool:
        return "#yes" if value else "#no"
    return MARK + value + MARK if type(value) is str else str(value)


def image_text(image):
    """The text of an image."""
    written = []
    waiting = [(True, image)]
    while waiting:
        is_data, piece = waiting.pop()
        if not is_data:
            written.append(piece)
        elif type(piece) is not tuple:
            written.append(plain_text(piece))
        else:
            written.append("(")
            waiting.append((False, ",)" if len(piece) == 1 else ")"))
            for k in range(len(piece) - 1, -1, -1):
                waiting.append((True, piece[k]))
                if k > 0:
                    waiting.append((False, ","))
    return "".join(written)


class Reader:
    """Goes through a text. What no text can go on with is wrong where it stands; so is a text's early end."""

    def __init__(self, text):
        self.text = text
        self.at = 0
        self.rows = []

    def sign(self):
        """The character that comes, or the empty string at the end."""
        return self.text[self.at:self.at + 1]

    def need(self, holds):
        if not holds:
            raise BadText(self.at)

    def need_sign(self, sign):
        """Goes behind a character that must come."""
        self.need(self.sign() == sign)
        self.at += 1

    def comes(self, sign):
        """Goes behind a character if it comes."""
        if self.sign() != sign:
            return False
        self.at += 1
        return True

    def read_integer(self):
        begin = self.at
        is_low = self.comes("-")
        self.need(self.sign() != "" and is_digit(self.sign()) and not (is_low and self.sign() == "0"))
        first = self.at
        self.at += 1
        while self.sign() != "" and is_digit(self.sign()):
            self.need(self.text[first] != "0" and self.at - first < MOST_DIGITS)
            self.at += 1
        return int(self.text[begin:self.at])

    def read_string(self):
        self.need_sign(MARK)
        begin = self.at
        while not self.comes(MARK):
            self.need(" " <= self.sign() <= "~" and self.at - begin < LONGEST_STRING)
            self.at += 1
        return self.text[begin:self.at - 1]

    def read_signed(self):
        """A word with the sign # ahead, as far as it goes."""
        begin = self.at
        while True:
            told = self.text[begin:self.at + 1]
            if not any([word.startswith(told) for word, _ in SIGNED_WORDS]) or self.sign() == "":
                break
            self.at += 1
        for word, meant in SIGNED_WORDS:
            if self.text[begin:self.at] == word:
                return meant
        raise BadText(self.at)

    def read_plain(self):
        """A piece of data that is no tuple."""
        if self.sign() == MARK:
            return self.read_string()
        return self.read_signed() if self.sign() == "#" else self.read_integer()

    def opens(self):
        """True if a tuple begins; goes behind its bracket."""
        if self.sign() != "(":
            return False
        self.need(len(self.rows) < MOST_OPEN)
        self.at += 1
        self.rows.append([])
        return True

    def read_all(self):
        """The data that the whole text tells."""
        while True:
            if self.opens():
                if not self.comes(")"):
                    continue
                value = tuple(self.rows.pop())
            else:
                value = self.read_plain()
            while self.rows and self.ends_with(value):
                value = tuple(self.rows.pop())
            if not self.rows:
                self.need(self.sign() == "")
                return value

    def ends_with(self, value):
        """Puts a member into the innermost tuple that is open; True if that ends behind it."""
        row = self.rows[-1]
        row.append(value)
        if len(row) > 1 and self.comes(")"):
            return True
        self.need_sign(",")
        return len(row) == 1 and self.comes(")")


def read_image(text):
    """The data that a text tells."""
    return Reader(text).read_all()
