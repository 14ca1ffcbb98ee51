"""What is handed in and given back, whatever the bytes are."""

import random
import unittest

from recipetexts.texts import plain, where
from tests.helper import as_bytes

SCRAPS = (
    "a", "b", "x-", "1", "0", "12", '"', '"', "${", "}", "{", "(", ")", "[", "]", "=", ";", ",", ".", "..", ":", "?",
    "+", "-", "*", "<", "<=", "==", "!=", "//", "++", " or ", " and ", " not ", " if ", " then ", " else ", " let ",
    " in ", " fn ", " rec ", " has ", " must ", " with ", " true ", "#", "\n", "\\", "$", "!", "\x00", "\xff",
)


class ReadOnly(list):
    """A list that tells on whoever changes it, were it only for a while."""

    def refuse(self, *given):
        raise AssertionError("what was handed in is changed")

    append = clear = extend = insert = pop = remove = reverse = sort = refuse
    __setitem__ = __delitem__ = __iadd__ = __imul__ = refuse


def random_texts():
    source = random.Random(20261116)
    for length in range(300):
        yield [source.randrange(256) for place in range(length % 60)]
        yield [source.randrange(32, 127) for place in range(length % 60)]
    for count in range(3000):
        yield as_bytes("".join(source.choice(SCRAPS) for scrap in range(count % 14)))
    for length in [2047, 2048, 2049, 4095, 4096]:
        yield [source.randrange(256) for place in range(length)]
        yield as_bytes("".join(source.choice(SCRAPS) for scrap in range(length)))[:length]
        for byte in range(256):
            yield [byte] * length


class Answers(unittest.TestCase):
    def test_any_bytes_are_answered(self):
        for text in random_texts():
            before = list(text)
            fault = where(text)
            printed = plain(text)
            self.assertEqual(text, before)
            self.check_kinds(fault)
            self.check_kinds(printed)
            self.check_together(text, fault, printed)

    def check_kinds(self, answer):
        self.assertIs(type(answer), list)
        for number in answer:
            self.assertIs(type(number), int)

    def check_together(self, text, fault, printed):
        number, place = fault
        self.assertIn(number, range(7))
        self.assertIn(place, range(min(len(text), 2048) + 1))
        if number in (0, 1, 6):
            self.assertEqual(place, 0)
        if number > 0:
            self.assertEqual(printed, [-number])
        elif printed != [-8]:
            self.assertEqual(printed[0], 0)
            self.assertLessEqual(len(printed), 2049)
            self.assertEqual(plain(printed[1:]), printed)

    def test_what_is_handed_in_is_never_changed(self):
        for written in ["let a = [1, {}]; in \"x${a}\\n\"", "-" * 2000 + "1", "(" * 41, "{ a = 1; a", '"', ""]:
            text = ReadOnly(as_bytes(written))
            plain(text)
            where(text)
            self.assertEqual(text, as_bytes(written))

    def test_nothing_is_kept(self):
        text = as_bytes("{ a = f x; }")
        first = plain(text)
        first.append(7)
        where(as_bytes("(" * 41))
        plain(as_bytes("{ a = 1; b = 2; a"))
        where(text).append(7)
        self.assertEqual(plain(text), [0] + text)
        self.assertEqual(where(text), [0, 0])

    def test_the_answer_is_not_the_text_itself(self):
        for written in ["abc", "123", '"abc"']:
            text = as_bytes(written)
            plain(text).clear()
            self.assertEqual(text, as_bytes(written))


if __name__ == "__main__":
    unittest.main()
