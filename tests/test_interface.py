"""What is handed in and given back, whatever the bytes are."""

import random
import unittest

from recipetexts.texts import part, plain, put, same, tree, where
from tests.helper import as_bytes, depth_of, fold, lead, replace, unfold

SCRAPS = (
    "a", "b", "x-", "1", "0", "12", '"', '"', "${", "}", "{", "(", ")", "[", "]", "=", ";", ",", ".", "..", ":", "?",
    "+", "-", "*", "<", "<=", "==", "!=", "//", "++", " or ", " and ", " not ", " if ", " then ", " else ", " let ",
    " in ", " fn ", " rec ", " has ", " must ", " with ", " true ", "#", "\n", "\\", "$", "!", "\x00", "\xff",
)


class ReadOnly(list):
    """A list that tells on whoever changes it, were it only for a while."""

    def refuse(self, *given):
        raise AssertionError("what was handed in is changed")

    append = clear = extend = insert = pop = remove = reverse = sort = refuse
    __setitem__ = __delitem__ = __iadd__ = __imul__ = refuse


def random_texts():
    source = random.Random(20261116)
    for length in range(300):
        yield [source.randrange(256) for place in range(length % 60)]
        yield [source.randrange(32, 127) for place in range(length % 60)]
    for count in range(3000):
        yield as_bytes("".join(source.choice(SCRAPS) for scrap in range(count % 14)))
    for length in [2047, 2048, 2049, 4095, 4096]:
        yield [source.randrange(256) for place in range(length)]
        yield as_bytes("".join(source.choice(SCRAPS) for scrap in range(length)))[:length]
        for byte in range(256):
            yield [byte] * length


def random_paths():
    """Without end: most of the numbers are such that many a path leads somewhere."""
    source = random.Random(11162026)
    while True:
        length = source.choice([0, 1, 1, 1, 2, 2, 3, 4, 8, 63, 64])
        path = [source.choice([0, 0, 0, 1, 1, 2]) for step in range(length)]
        if path and source.randrange(4) == 0:
            path[source.randrange(length)] = source.choice(
                [-1, -2, 3, 2048, 10 ** 18, -10 ** 18, source.randrange(-10 ** 18, 10 ** 18)]
            )
        yield path


# How many labels and kids a node of each kind may have, as the least and the most (None: no most).
SHAPES = {
    0: (1, 1, 0, 0), 1: (1, 1, 0, 0), 2: (0, 0, 0, 0), 3: (0, 0, 0, 0), 4: (0, 0, 0, 0), 5: (1, 1, 0, 0),
    6: (0, 0, 0, None), 7: (0, 0, 0, None), 8: (0, None, 0, None), 9: (0, None, 0, None), 10: (1, None, 1, 2),
    14: (1, 1, 1, 1), 15: (1, 1, 1, 1), 16: (0, 0, 1, None), 17: (0, 0, 1, None), 18: (1, 1, 0, 1),
    12: (0, 0, 1, 1), 13: (0, 0, 1, 1), 19: (1, None, 2, None), 20: (0, 0, 3, 3),
}
TWO_OPERANDS = (0, 0, 2, 2)


def is_within(count, least, most):
    return least <= count and (most is None or count <= most)


class Answers(unittest.TestCase):
    def test_any_bytes_are_answered(self):
        last = []
        for text in random_texts():
            before, last_before = list(text), list(last)
            fault, printed, told = where(text), plain(text), tree(text)
            compared, compared_back = same(text, last), same(last, text)
            self.assertEqual(text, before)
            self.assertEqual(last, last_before)
            for answer in [fault, printed, told, compared, compared_back]:
                self.check_kinds(answer)
            self.check_fault(text, fault)
            self.check_printed(printed, fault[0])
            self.check_told(told, fault[0])
            self.check_compared(compared, told, tree(last))
            self.check_compared(compared_back, tree(last), told)
            last = text

    def check_kinds(self, answer):
        self.assertIs(type(answer), list)
        for number in answer:
            self.assertIs(type(number), int)

    def check_fault(self, text, fault):
        number, place = fault
        self.assertIn(number, range(7))
        self.assertIn(place, range(min(len(text), 2048) + 1))
        if number in (0, 1, 6):
            self.assertEqual(place, 0)

    def check_printed(self, printed, number):
        if number > 0:
            self.assertEqual(printed, [-number])
        elif printed != [-8]:
            self.assertEqual(printed[0], 0)
            self.assertLessEqual(len(printed), 2049)
            self.assertEqual(plain(printed[1:]), printed)

    def check_told(self, told, number):
        if number > 0:
            self.assertEqual(told, [-number])
        else:
            self.assertEqual(told[0], 0)
            unfolded = unfold(told[1:])
            self.assertEqual(fold(unfolded), told[1:])
            self.assertLessEqual(depth_of(unfolded), 40)
            self.check_shape(unfolded)

    def check_shape(self, unfolded):
        kind, labels, kids = unfolded
        self.assertIn(kind, range(33))
        least_labels, most_labels, least_kids, most_kids = SHAPES.get(kind, TWO_OPERANDS)
        self.assertTrue(is_within(len(labels), least_labels, most_labels), unfolded)
        self.assertTrue(is_within(len(kids), least_kids, most_kids), unfolded)
        if kind in (8, 9, 19):
            self.assertEqual(len(kids), len(labels) + (kind == 19))
        for kid in kids:
            self.check_shape(kid)

    def check_compared(self, compared, first, second):
        if first[0] < 0:
            self.assertEqual(compared, first)
        elif second[0] < 0:
            self.assertEqual(compared, [second[0] - 10])
        else:
            self.assertEqual(compared, [int(first == second)])

    def test_any_path_is_answered(self):
        last = as_bytes("f x")
        answers = {}
        for text, path in zip(random_texts(), random_paths()):
            before = list(text), list(path), list(last)
            found, changed, changed_back = part(text, path), put(text, path, last), put(last, path, text)
            self.assertEqual((text, path, last), before)
            for answer in [found, changed, changed_back]:
                self.check_kinds(answer)
                answers[answer[0]] = answers.get(answer[0], 0) + 1
            self.check_part(found, tree(text), path)
            self.check_put(changed, tree(text), path, tree(last))
            self.check_put(changed_back, tree(last), path, tree(text))
            if tree(text)[0] == 0:
                last = text
        for answer in [0, -1, -2, -3, -7, -11, -12, -13]:
            self.assertIn(answer, answers)

    def check_part(self, found, told, path):
        if told[0] < 0:
            self.assertEqual(found, told)
            return
        expected = lead(unfold(told[1:]), path)
        if expected is None:
            self.assertEqual(found, [-7])
        else:
            self.check_print_of(found, expected)

    def check_put(self, changed, told, path, other):
        if told[0] < 0:
            self.assertEqual(changed, told)
            return
        if other[0] < 0:
            self.assertEqual(changed, [other[0] - 10])
            return
        whole = unfold(told[1:])
        if lead(whole, path) is None:
            self.assertEqual(changed, [-7])
            return
        expected = replace(whole, path, unfold(other[1:]))
        if depth_of(expected) > 40:
            self.assertEqual(changed, [-6])
        else:
            self.check_print_of(changed, expected)

    def check_print_of(self, printed, unfolded):
        if printed != [-8]:
            self.assertEqual(printed[0], 0)
            self.assertLessEqual(len(printed), 2049)
            self.assertEqual(plain(printed[1:]), printed)
            self.assertEqual(tree(printed[1:]), [0] + fold(unfolded))

    def test_what_is_handed_in_is_never_changed(self):
        for written in ["let a = [1, {}]; in \"x${a}\\n\"", "-" * 2000 + "1", "(" * 41, "{ a = 1; a", '"', ""]:
            text, other = ReadOnly(as_bytes(written)), ReadOnly(as_bytes("f x"))
            plain(text)
            where(text)
            tree(text)
            same(text, other)
            same(other, text)
            same(text, text)
            for steps in [[], [0], [1, 0], [1], [0, 1, 2], [-1]]:
                path = ReadOnly(steps)
                part(text, path)
                put(text, path, other)
                put(other, path, text)
                put(text, path, text)
                self.assertEqual(path, steps)
            self.assertEqual(text, as_bytes(written))
            self.assertEqual(other, as_bytes("f x"))

    def test_nothing_is_kept(self):
        text = as_bytes("{ a = f x; }")
        told = list(tree(text))
        for answer in [plain(text), where(text), tree(text), same(text, text), part(text, [0]), put(text, [0], text)]:
            answer.append(7)
            answer[0] = 7
        where(as_bytes("(" * 41))
        plain(as_bytes("{ a = 1; b = 2; a"))
        tree(as_bytes("-" * 2000 + "1"))
        same(text, as_bytes("{ a = f y"))
        part(text, [0, 2])
        put(text, [0, 1], as_bytes("g"))
        self.assertEqual(plain(text), [0] + text)
        self.assertEqual(where(text), [0, 0])
        self.assertEqual(tree(text), told)
        self.assertEqual(same(text, text), [1])
        self.assertEqual(part(text, [0, 1]), [0] + as_bytes("x"))
        self.assertEqual(put(text, [0, 0], as_bytes("g")), [0] + as_bytes("{ a = g x; }"))

    def test_the_answer_is_not_the_text_itself(self):
        for written in ["abc", "123", '"abc"']:
            text = as_bytes(written)
            plain(text).clear()
            tree(text).clear()
            same(text, text).clear()
            part(text, []).clear()
            put(as_bytes("1"), [], text).clear()
            self.assertEqual(text, as_bytes(written))


if __name__ == "__main__":
    unittest.main()
