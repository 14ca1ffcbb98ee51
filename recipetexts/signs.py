"""The bytes that have a meaning of their own, and written signs as bytes."""

TAB = 9
LINE_FEED = 10
RETURN = 13
BLANK = 32
QUOTE = 34
HASH = 35
DOLLAR = 36
MINUS = 45
ZERO = 48
BACKSLASH = 92
UNDERSCORE = 95
LEFT_BRACE = 123
RIGHT_BRACE = 125


def bytes_of(written):
    return [ord(sign) for sign in written]
