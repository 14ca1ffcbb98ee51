"""Cutting a text into tokens."""

from recipetexts.refusals import WrongToken
from recipetexts.signs import BACKSLASH, BLANK, DOLLAR, HASH, LEFT_BRACE, LINE_FEED, MINUS, QUOTE
from recipetexts.signs import RETURN, RIGHT_BRACE, TAB, UNDERSCORE, ZERO, bytes_of

MOST_NAME_BYTES = 32
MOST_DIGITS = 30

# What stands behind the end of a text; no byte is this number.
NOTHING = -1

WORDS = (
    "and", "else", "false", "fn", "has", "if", "in", "let",
    "must", "none", "not", "or", "rec", "then", "true", "with",
)

# The longer signs come first, so that `==` is not cut as `=` twice.
SIGNS = (
    "++", "//", "==", "!=", "<=", "..",
    "(", ")", "[", "]", "=", ";", ",", ".", ":", "?", "+", "-", "*", "<",
)

# The byte behind a backslash, and the byte that the two stand for (110 is n, 116 is t).
ESCAPES = {34: 34, 92: 92, 110: 10, 116: 9, 36: 36}


# A word or a sign is its own kind. The other kinds are name, number, quote, unquote, piece,
# hole, unhole and end: none of these is one of the words.
class Token:
    def __init__(self, kind, place, held):
        self.kind = kind
        self.place = place
        self.held = held


def is_letter(byte):
    return 65 <= byte <= 90 or 97 <= byte <= 122


def is_digit(byte):
    return 48 <= byte <= 57


def is_in_name(byte):
    return is_letter(byte) or is_digit(byte) or byte in (MINUS, UNDERSCORE)


def kind_of_name(held):
    for word in WORDS:
        if held == bytes_of(word):
            return word
    return "name"


# How far the cutting of one text has come.
class Cutter:
    def __init__(self, text):
        self.text = text
        self.place = 0
        self.tokens = []
        self.opened = []
        self.in_literal = False
        self.ended = False

    def byte_at(self, place):
        return self.text[place] if place < len(self.text) else NOTHING

    def add_token(self, kind, length, held):
        self.tokens.append(Token(kind, self.place, held))
        self.place += length

    def cut_outside(self):
        byte = self.byte_at(self.place)
        if byte == NOTHING:
            self.add_token("end", 0, [])
            self.ended = True
        elif byte in (BLANK, TAB, LINE_FEED, RETURN):
            self.place += 1
        elif byte == HASH:
            self.pass_comment()
        elif is_letter(byte):
            self.cut_name()
        elif is_digit(byte):
            self.cut_number()
        elif byte == QUOTE:
            self.add_token("quote", 1, [])
            self.in_literal = True
        elif byte == LEFT_BRACE:
            self.opened.append("brace")
            self.add_token("{", 1, [])
        elif byte == RIGHT_BRACE:
            self.cut_right_brace()
        else:
            self.cut_sign()

    def pass_comment(self):
        while self.byte_at(self.place) not in (LINE_FEED, NOTHING):
            self.place += 1

    def cut_name(self):
        end = self.place
        while is_in_name(self.byte_at(end)):
            end += 1
        if end - self.place > MOST_NAME_BYTES:
            raise WrongToken(self.place)
        held = self.text[self.place:end]
        self.add_token(kind_of_name(held), len(held), held)

    def cut_number(self):
        end = self.place
        while is_digit(self.byte_at(end)):
            end += 1
        held = self.text[self.place:end]
        if len(held) > MOST_DIGITS or (len(held) > 1 and held[0] == ZERO):
            raise WrongToken(self.place)
        self.add_token("number", len(held), held)

    def cut_right_brace(self):
        # A right brace that closes nothing is still a sign: it is for the reading to refuse it.
        closed = self.opened.pop() if self.opened else "brace"
        if closed == "hole":
            self.add_token("unhole", 1, [])
            self.in_literal = True
        else:
            self.add_token("}", 1, [])

    def cut_sign(self):
        for sign in SIGNS:
            if self.text[self.place:self.place + len(sign)] == bytes_of(sign):
                self.add_token(sign, len(sign), [])
                return
        raise WrongToken(self.place)

    def cut_literal(self):
        self.cut_piece()
        byte = self.byte_at(self.place)
        if byte == NOTHING:
            raise WrongToken(self.place)
        if byte == QUOTE:
            self.add_token("unquote", 1, [])
        else:
            self.opened.append("hole")
            self.add_token("hole", 2, [])
        self.in_literal = False

    def cut_piece(self):
        first = self.place
        held = []
        while not self.is_piece_over():
            held.append(self.gather_byte())
        if held:
            self.tokens.append(Token("piece", first, held))

    def is_piece_over(self):
        byte = self.byte_at(self.place)
        if byte == DOLLAR:
            return self.byte_at(self.place + 1) == LEFT_BRACE
        return byte in (QUOTE, NOTHING)

    def gather_byte(self):
        byte = self.byte_at(self.place)
        if byte == BACKSLASH:
            byte = ESCAPES.get(self.byte_at(self.place + 1))
            if byte is None:
                raise WrongToken(self.place)
            self.place += 2
            return byte
        if byte < BLANK and byte not in (TAB, LINE_FEED):
            raise WrongToken(self.place)
        self.place += 1
        return byte


def cut(text):
    cutter = Cutter(text)
    while not cutter.ended:
        if cutter.in_literal:
            cutter.cut_literal()
        else:
            cutter.cut_outside()
    return cutter.tokens
