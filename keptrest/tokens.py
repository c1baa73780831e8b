"""Texts cut into tokens."""

WORD_SIGNS = "abcdefghijklmnopqrstuvwxyz0123456789-+*/<>=?!_&:"
RUN_ENDS = " \n()'@;"
LONGEST_WORD = 30
MOST_DIGITS = 30
MOST_LABEL_DIGITS = 5


def may_stand(sign):
    """True if a text may have this character."""
    return sign == "\n" or " " <= sign <= "~"


def is_digit(sign):
    """True for the ten digits alone."""
    return "0" <= sign <= "9"


def is_good_word(text):
    """True if the string is a word."""
    if not 1 <= len(text) <= LONGEST_WORD:
        return False
    if any([sign not in WORD_SIGNS for sign in text]):
        return False
    if is_digit(text[0]):
        return False
    return not (text[0] in "-+" and len(text) > 1 and is_digit(text[1]))


def are_digits(text):
    """True for at least one digit, without a leading zero unless it is 0 alone."""
    if text == "" or any([not is_digit(sign) for sign in text]):
        return False
    return text[0] != "0" or text == "0"


def is_good_integer(text):
    """True if the string is an integer as it may stand in a text."""
    digits = text[1:] if text.startswith("-") else text
    return are_digits(digits) and len(digits) <= MOST_DIGITS and text != "-0"


def run_token(run, place):
    """The token of a run of characters."""
    if run == ".":
        return (".", None, place)
    if run == "#yes":
        return ("datum", True, place)
    if run == "#no":
        return ("datum", False, place)
    if is_good_integer(run):
        return ("datum", int(run), place)
    if is_good_word(run):
        return ("datum", ("name", run), place)
    return ("bad", None, place)


class Scanner:
    """Goes through a text and knows the row and the column."""

    def __init__(self, text):
        self.text = text
        self.at = 0
        self.row = 1
        self.row_start = 0

    def here(self):
        return (self.row, self.at - self.row_start + 1)

    def sign(self):
        """The character that comes, or the empty string at the end."""
        return self.text[self.at:self.at + 1]

    def skip_line_end(self):
        self.at += 1
        self.row += 1
        self.row_start = self.at

    def skip_comment(self):
        """Stops ahead of a line end, of the end and of what may not stand."""
        while self.sign() not in ("", "\n") and may_stand(self.sign()):
            self.at += 1

    def skip_blanks(self):
        while True:
            sign = self.sign()
            if sign == " ":
                self.at += 1
            elif sign == "\n":
                self.skip_line_end()
            elif sign == ";":
                self.skip_comment()
            else:
                return

    def take_run(self):
        begin = self.at
        while self.sign() != "" and self.sign() not in RUN_ENDS and may_stand(self.sign()):
            self.at += 1
        return self.text[begin:self.at]

    def take_digits(self):
        begin = self.at
        while self.sign() != "" and is_digit(self.sign()):
            self.at += 1
        return self.text[begin:self.at]


def label_token(scanner, place):
    """The token that begins with the @ at which the scanner stands."""
    scanner.at += 1
    digits = scanner.take_digits()
    if not are_digits(digits) or len(digits) > MOST_LABEL_DIGITS:
        return ("bad", None, place)
    begins = scanner.sign() == "="
    if begins:
        scanner.at += 1
    return ("label", (int(digits), begins), place)


def taken_token(scanner):
    """The token that begins at the scanner's place, which is no blank."""
    place = scanner.here()
    sign = scanner.sign()
    if sign == "":
        return ("end", None, place)
    if not may_stand(sign):
        return ("bad", None, place)
    if sign in "()'":
        scanner.at += 1
        return (sign, None, place)
    if sign == "@":
        return label_token(scanner, place)
    return run_token(scanner.take_run(), place)


def tokens_of(text):
    """All tokens (KIND, VALUE, PLACE) up to the end or to what is bad in itself."""
    scanner = Scanner(text)
    tokens = []
    while True:
        scanner.skip_blanks()
        token = taken_token(scanner)
        tokens.append(token)
        if token[0] in ("end", "bad"):
            return tokens
