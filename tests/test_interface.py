"""What is handed in and given back, whatever the bytes are."""

import random
import unittest

from recipetexts.texts import plain, same, tree, where
from tests.helper import as_bytes, fold, unfold

SCRAPS = (
    "a", "b", "x-", "1", "0", "12", '"', '"', "${", "}", "{", "(", ")", "[", "]", "=", ";", ",", ".", "..", ":", "?",
    "+", "-", "*", "<", "<=", "==", "!=", "//", "++", " or ", " and ", " not ", " if ", " then ", " else ", " let ",
    " in ", " fn ", " rec ", " has ", " must ", " with ", " true ", "#", "\n", "\\", "$", "!", "\x00", "\xff",
)


class ReadOnly(list):
    """A list that tells on whoever changes it, were it only for a while."""

    def refuse(self, *given):
        raise AssertionError("what was handed in is changed")

    append = clear = extend = insert = pop = remove = reverse = sort = refuse
    __setitem__ = __delitem__ = __iadd__ = __imul__ = refuse


def random_texts():
    source = random.Random(20261116)
    for length in range(300):
        yield [source.randrange(256) for place in range(length % 60)]
        yield [source.randrange(32, 127) for place in range(length % 60)]
    for count in range(3000):
        yield as_bytes("".join(source.choice(SCRAPS) for scrap in range(count % 14)))
    for length in [2047, 2048, 2049, 4095, 4096]:
        yield [source.randrange(256) for place in range(length)]
        yield as_bytes("".join(source.choice(SCRAPS) for scrap in range(length)))[:length]
        for byte in range(256):
            yield [byte] * length


# How many labels and kids a node of each kind may have, as the least and the most (None: no most).
SHAPES = {
    0: (1, 1, 0, 0), 1: (1, 1, 0, 0), 2: (0, 0, 0, 0), 3: (0, 0, 0, 0), 4: (0, 0, 0, 0), 5: (1, 1, 0, 0),
    6: (0, 0, 0, None), 7: (0, 0, 0, None), 8: (0, None, 0, None), 9: (0, None, 0, None), 10: (1, None, 1, 2),
    14: (1, 1, 1, 1), 15: (1, 1, 1, 1), 16: (0, 0, 1, None), 17: (0, 0, 1, None), 18: (1, 1, 0, 1),
    12: (0, 0, 1, 1), 13: (0, 0, 1, 1), 19: (1, None, 2, None), 20: (0, 0, 3, 3),
}
TWO_OPERANDS = (0, 0, 2, 2)


def depth_of(unfolded):
    return 1 + max([depth_of(kid) for kid in unfolded[2]], default=0)


def is_within(count, least, most):
    return least <= count and (most is None or count <= most)


class Answers(unittest.TestCase):
    def test_any_bytes_are_answered(self):
        last = []
        for text in random_texts():
            before, last_before = list(text), list(last)
            fault, printed, told = where(text), plain(text), tree(text)
            compared, compared_back = same(text, last), same(last, text)
            self.assertEqual(text, before)
            self.assertEqual(last, last_before)
            for answer in [fault, printed, told, compared, compared_back]:
                self.check_kinds(answer)
            self.check_fault(text, fault)
            self.check_printed(printed, fault[0])
            self.check_told(told, fault[0])
            self.check_compared(compared, told, tree(last))
            self.check_compared(compared_back, tree(last), told)
            last = text

    def check_kinds(self, answer):
        self.assertIs(type(answer), list)
        for number in answer:
            self.assertIs(type(number), int)

    def check_fault(self, text, fault):
        number, place = fault
        self.assertIn(number, range(7))
        self.assertIn(place, range(min(len(text), 2048) + 1))
        if number in (0, 1, 6):
            self.assertEqual(place, 0)

    def check_printed(self, printed, number):
        if number > 0:
            self.assertEqual(printed, [-number])
        elif printed != [-8]:
            self.assertEqual(printed[0], 0)
            self.assertLessEqual(len(printed), 2049)
            self.assertEqual(plain(printed[1:]), printed)

    def check_told(self, told, number):
        if number > 0:
            self.assertEqual(told, [-number])
        else:
            self.assertEqual(told[0], 0)
            unfolded = unfold(told[1:])
            self.assertEqual(fold(unfolded), told[1:])
            self.assertLessEqual(depth_of(unfolded), 40)
            self.check_shape(unfolded)

    def check_shape(self, unfolded):
        kind, labels, kids = unfolded
        self.assertIn(kind, range(33))
        least_labels, most_labels, least_kids, most_kids = SHAPES.get(kind, TWO_OPERANDS)
        self.assertTrue(is_within(len(labels), least_labels, most_labels), unfolded)
        self.assertTrue(is_within(len(kids), least_kids, most_kids), unfolded)
        if kind in (8, 9, 19):
            self.assertEqual(len(kids), len(labels) + (kind == 19))
        for kid in kids:
            self.check_shape(kid)

    def check_compared(self, compared, first, second):
        if first[0] < 0:
            self.assertEqual(compared, first)
        elif second[0] < 0:
            self.assertEqual(compared, [second[0] - 10])
        else:
            self.assertEqual(compared, [int(first == second)])

    def test_what_is_handed_in_is_never_changed(self):
        for written in ["let a = [1, {}]; in \"x${a}\\n\"", "-" * 2000 + "1", "(" * 41, "{ a = 1; a", '"', ""]:
            text, other = ReadOnly(as_bytes(written)), ReadOnly(as_bytes("f x"))
            plain(text)
            where(text)
            tree(text)
            same(text, other)
            same(other, text)
            same(text, text)
            self.assertEqual(text, as_bytes(written))
            self.assertEqual(other, as_bytes("f x"))

    def test_nothing_is_kept(self):
        text = as_bytes("{ a = f x; }")
        told = list(tree(text))
        for answer in [plain(text), where(text), tree(text), same(text, text)]:
            answer.append(7)
            answer[0] = 7
        where(as_bytes("(" * 41))
        plain(as_bytes("{ a = 1; b = 2; a"))
        tree(as_bytes("-" * 2000 + "1"))
        same(text, as_bytes("{ a = f y"))
        self.assertEqual(plain(text), [0] + text)
        self.assertEqual(where(text), [0, 0])
        self.assertEqual(tree(text), told)
        self.assertEqual(same(text, text), [1])

    def test_the_answer_is_not_the_text_itself(self):
        for written in ["abc", "123", '"abc"']:
            text = as_bytes(written)
            plain(text).clear()
            tree(text).clear()
            same(text, text).clear()
            self.assertEqual(text, as_bytes(written))


if __name__ == "__main__":
    unittest.main()
