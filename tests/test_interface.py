"""What is handed in and given back, whatever the bytes are."""

import contextlib
import inspect
import io
import random
import sys
import unittest

from recipetexts.texts import part, plain, put, same, sizes, tree, where
from tests.helper import as_bytes, count_nodes, depth_of, fold, lead, replace, unfold

SCRAPS = (
    "a", "b", "x-", "1", "0", "12", '"', '"', "${", "}", "{", "(", ")", "[", "]", "=", ";", ",", ".", "..", ":", "?",
    "+", "-", "*", "<", "<=", "==", "!=", "//", "++", " or ", " and ", " not ", " if ", " then ", " else ", " let ",
    " in ", " fn ", " rec ", " has ", " must ", " with ", " true ", "#", "\n", "\\", "$", "!", "\x00", "\xff",
)


# What can be read, to be changed here and there.
RECIPES = (
    'let  x=( 1 )+(2*3);y="a${ f (g x)}$"; in{k=x -(-1);l=(f x).a.b?(-1);}.k',
    "fn {a, b ? fn x: x, ..}: if a == b then [a, b] else rec { a = b; b = a; }",
    'must a has b and not c or d <= e; "${"${a}\\n"}b" ++ f {} // g []',
    "fn {a ? 1, b}: let c = a; d = b; in { a = c.d ? [true, false, none]; b = -c d; }",
    "{ a = 1; ab = 2; b = 3; }",
    "f " + "-" * 38 + "a",
)


class ReadOnly(list):
    """A list that tells on whoever changes it, were it only for a while."""

    def refuse(self, *given):
        raise AssertionError("what was handed in is changed")

    append = clear = extend = insert = pop = remove = reverse = sort = refuse
    __setitem__ = __delitem__ = __iadd__ = __imul__ = refuse


def changed_recipe(source):
    text = as_bytes(source.choice(RECIPES))
    for change in range(source.randrange(3)):
        place, length = source.randrange(len(text) + 1), source.choice([0, 0, 1, 1, 2, 5])
        text[place:place + length] = source.choice([[], [], as_bytes(source.choice(SCRAPS)), [source.randrange(256)]])
    return text


def random_texts():
    source = random.Random(20261116)
    for count in range(800):
        yield changed_recipe(source)
    for length in range(300):
        yield [source.randrange(256) for place in range(length % 60)]
        yield [source.randrange(32, 127) for place in range(length % 60)]
    for count in range(3000):
        yield as_bytes("".join(source.choice(SCRAPS) for scrap in range(count % 14)))
    for length in [2047, 2048, 2049, 4095, 4096]:
        yield [source.randrange(256) for place in range(length)]
        yield as_bytes("".join(source.choice(SCRAPS) for scrap in range(length)))[:length]
        for byte in range(256):
            yield [byte] * length


def random_paths():
    """Without end: most of the numbers are such that many a path leads somewhere."""
    source = random.Random(11162026)
    while True:
        length = source.choice([0, 1, 1, 1, 2, 2, 3, 4, 8, 63, 64])
        path = [source.choice([0, 0, 0, 1, 1, 2]) for step in range(length)]
        if path and source.randrange(4) == 0:
            path[source.randrange(length)] = source.choice(
                [-1, -2, 3, 2048, 10 ** 18, -10 ** 18, source.randrange(-10 ** 18, 10 ** 18)]
            )
        yield path


# How many labels and kids a node of each kind may have, as the least and the most (None: no most).
SHAPES = {
    0: (1, 1, 0, 0), 1: (1, 1, 0, 0), 2: (0, 0, 0, 0), 3: (0, 0, 0, 0), 4: (0, 0, 0, 0), 5: (1, 1, 0, 0),
    6: (0, 0, 0, None), 7: (0, 0, 0, None), 8: (0, None, 0, None), 9: (0, None, 0, None), 10: (1, None, 1, 2),
    14: (1, 1, 1, 1), 15: (1, 1, 1, 1), 16: (0, 0, 1, None), 17: (0, 0, 1, None), 18: (1, 1, 0, 1),
    12: (0, 0, 1, 1), 13: (0, 0, 1, 1), 19: (1, None, 2, None), 20: (0, 0, 3, 3),
}
TWO_OPERANDS = (0, 0, 2, 2)


def is_within(count, least, most):
    return least <= count and (most is None or count <= most)


def all_answers(texts):
    """The answers of every call, to each of the texts and to each two of them."""
    for text in texts:
        yield from [plain(text), where(text), tree(text), sizes(text)]
        for path in [[], [0], [0, 0], [1], [-1]]:
            yield part(text, path)
        for other in texts:
            yield from [same(text, other), put(text, [], other), put(text, [0], other), put(text, [0, 1], other)]


class Answers(unittest.TestCase):
    def test_any_bytes_are_answered(self):
        last, last_told = [], [-3]
        for text in random_texts():
            before, last_before = list(text), list(last)
            fault, printed, told = where(text), plain(text), tree(text)
            compared, compared_back, counted = same(text, last), same(last, text), sizes(text)
            self.assertEqual(text, before)
            self.assertEqual(last, last_before)
            for answer in [fault, printed, told, compared, compared_back, counted]:
                self.check_kinds(answer)
            self.check_fault(text, fault)
            self.check_printed(printed, fault[0])
            self.check_told(told, fault[0])
            self.check_counted(counted, told, printed)
            self.check_compared(compared, told, last_told)
            self.check_compared(compared_back, last_told, told)
            last, last_told = text, told

    def check_kinds(self, answer):
        self.assertIs(type(answer), list)
        for number in answer:
            self.assertIs(type(number), int)

    def check_fault(self, text, fault):
        number, place = fault
        self.assertIn(number, range(7))
        self.assertIn(place, range(min(len(text), 2048) + 1))
        if number in (0, 1, 6):
            self.assertEqual(place, 0)

    def check_printed(self, printed, number):
        if number > 0:
            self.assertEqual(printed, [-number])
        elif printed != [-8]:
            self.assertEqual(printed[0], 0)
            self.assertLessEqual(len(printed), 2049)
            self.assertEqual(plain(printed[1:]), printed)

    def check_told(self, told, number):
        if number > 0:
            self.assertEqual(told, [-number])
        else:
            self.assertEqual(told[0], 0)
            unfolded = unfold(told[1:])
            self.assertEqual(fold(unfolded), told[1:])
            self.assertLessEqual(depth_of(unfolded), 40)
            self.check_shape(unfolded)

    def check_counted(self, counted, told, printed):
        if told[0] < 0:
            self.assertEqual(counted, told)
            return
        unfolded = unfold(told[1:])
        self.assertEqual(counted[:3], [0, count_nodes(unfolded), depth_of(unfolded)])
        self.assertEqual(len(counted), 4)
        if printed == [-8]:
            self.assertGreater(counted[3], 2048)
        else:
            self.assertEqual(counted[3], len(printed) - 1)

    def check_shape(self, unfolded):
        kind, labels, kids = unfolded
        self.assertIn(kind, range(33))
        least_labels, most_labels, least_kids, most_kids = SHAPES.get(kind, TWO_OPERANDS)
        self.assertTrue(is_within(len(labels), least_labels, most_labels), unfolded)
        self.assertTrue(is_within(len(kids), least_kids, most_kids), unfolded)
        if kind in (8, 9, 19):
            self.assertEqual(len(kids), len(labels) + (kind == 19))
        for kid in kids:
            self.check_shape(kid)

    def check_compared(self, compared, first, second):
        if first[0] < 0:
            self.assertEqual(compared, first)
        elif second[0] < 0:
            self.assertEqual(compared, [second[0] - 10])
        else:
            self.assertEqual(compared, [int(first == second)])

    def test_any_path_is_answered(self):
        last = as_bytes("f x")
        last_told = tree(last)
        answers = {}
        for text, path in zip(random_texts(), random_paths()):
            before = list(text), list(path), list(last)
            found, changed, changed_back = part(text, path), put(text, path, last), put(last, path, text)
            self.assertEqual((text, path, last), before)
            for answer in [found, changed, changed_back]:
                self.check_kinds(answer)
                answers[answer[0]] = answers.get(answer[0], 0) + 1
            told = tree(text)
            self.check_part(found, told, path)
            self.check_put(changed, told, path, last_told)
            self.check_put(changed_back, last_told, path, told)
            if told[0] == 0:
                last, last_told = text, told
        for answer in [0, -1, -2, -3, -5, -6, -7, -11, -12, -13, -15]:
            self.assertIn(answer, answers)

    def check_part(self, found, told, path):
        if told[0] < 0:
            self.assertEqual(found, told)
            return
        expected = lead(unfold(told[1:]), path)
        if expected is None:
            self.assertEqual(found, [-7])
        else:
            self.check_print_of(found, expected)

    def check_put(self, changed, told, path, other):
        if told[0] < 0:
            self.assertEqual(changed, told)
            return
        if other[0] < 0:
            self.assertEqual(changed, [other[0] - 10])
            return
        whole = unfold(told[1:])
        if lead(whole, path) is None:
            self.assertEqual(changed, [-7])
            return
        expected = replace(whole, path, unfold(other[1:]))
        if depth_of(expected) > 40:
            self.assertEqual(changed, [-6])
        else:
            self.check_print_of(changed, expected)

    def check_print_of(self, printed, unfolded):
        if printed != [-8]:
            self.assertEqual(printed[0], 0)
            self.assertLessEqual(len(printed), 2049)
            self.assertEqual(plain(printed[1:]), printed)
            self.assertEqual(tree(printed[1:]), [0] + fold(unfolded))

    def test_what_is_handed_in_is_never_changed(self):
        for written in ["let a = [1, {}]; in \"x${a}\\n\"", "-" * 2000 + "1", "(" * 41, "{ a = 1; a", '"', ""]:
            text, other = ReadOnly(as_bytes(written)), ReadOnly(as_bytes("f x"))
            plain(text)
            where(text)
            tree(text)
            sizes(text)
            same(text, other)
            same(other, text)
            same(text, text)
            for steps in [[], [0], [1, 0], [1], [0, 1, 2], [-1]]:
                path = ReadOnly(steps)
                part(text, path)
                put(text, path, other)
                put(other, path, text)
                put(text, path, text)
                self.assertEqual(path, steps)
            self.assertEqual(text, as_bytes(written))
            self.assertEqual(other, as_bytes("f x"))

    def test_nothing_is_kept(self):
        texts = [as_bytes(written) for written in [
            "{ a = f x; }", "(" * 41, "{ a = 1; b = 2; a", "-" * 40 + "1", "a !", "", "f x", "fn {a ? 1}: 2", '"a${b}"',
        ]]
        first = [list(answer) for answer in all_answers(texts)]
        for answer in all_answers(texts):
            answer.append(7)
            answer[0] = 7
        self.assertEqual(list(all_answers(texts)), first)
        backward = list(all_answers(texts[::-1]))
        self.assertEqual(sorted(backward), sorted(first))

    def test_the_same_call_twice_with_others_between(self):
        text, other = as_bytes("{ a = f x; }"), as_bytes("g")
        for count in range(2):
            self.assertEqual(plain(text), [0] + text)
            self.assertEqual(where(text), [0, 0])
            self.assertEqual(tree(other), [0, 5, 1, 1, 103, 0])
            self.assertEqual(same(text, text), [1])
            self.assertEqual(same(text, other), [0])
            self.assertEqual(part(text, [0, 1]), [0] + as_bytes("x"))
            self.assertEqual(put(text, [0, 0], other), [0] + as_bytes("{ a = g x; }"))
            self.assertEqual(sizes(text), [0, 4, 3, 12])

    def test_the_answer_is_not_the_text_itself(self):
        for written in ["abc", "123", '"abc"']:
            text = as_bytes(written)
            plain(text).clear()
            tree(text).clear()
            same(text, text).clear()
            sizes(text).clear()
            part(text, []).clear()
            put(as_bytes("1"), [], text).clear()
            self.assertEqual(text, as_bytes(written))


class Calls(unittest.TestCase):
    def test_names_and_arguments(self):
        for call, names in [
            (plain, ["text"]), (where, ["text"]), (tree, ["text"]), (same, ["a", "b"]), (part, ["text", "path"]),
            (put, ["text", "path", "other"]), (sizes, ["text"]),
        ]:
            self.assertEqual(list(inspect.signature(call).parameters), names)

    def test_nothing_is_printed(self):
        said = io.StringIO()
        with contextlib.redirect_stdout(said), contextlib.redirect_stderr(said):
            list(all_answers([as_bytes(recipe) for recipe in (*RECIPES, "", "a !")]))
        self.assertEqual(said.getvalue(), "")

    def test_few_calls_within_one_another(self):
        texts = [as_bytes(written) for written in [
            "-" * 2000 + "1", "not " * 500 + "1", "a" + "++a" * 600, "[" * 40 + "]" * 40, "-" * 39 + "a", "[" * 2048,
            '"${' * 39 + "1" + '}"' * 39, "f " * 1000, "a" + ".b" * 1000, "[" + "1," * 1000 + "1]",
        ]]
        limit = sys.getrecursionlimit()
        sys.setrecursionlimit(len(inspect.stack(0)) + 60)
        try:
            for text in texts:
                for answer in [plain(text), where(text), tree(text), same(text, text), sizes(text),
                               part(text, [0] * 39), put(text, [0] * 39, text)]:
                    self.assertIs(type(answer), list)
        finally:
            sys.setrecursionlimit(limit)


class Ends(unittest.TestCase):
    """Each of the seven calls at the empty text, and at texts of 2048, 2049 and 4096 bytes."""

    def check_refused(self, text, refusal):
        one = as_bytes("1")
        for answer in [plain(text), tree(text), sizes(text), same(text, one), same(text, text)]:
            self.assertEqual(answer, [refusal])
        self.assertEqual(same(one, text), [refusal - 10])
        for path in [[], [0], [-1], [0] * 64]:
            self.assertEqual(part(text, path), [refusal])
            self.assertEqual(put(text, path, one), [refusal])
            self.assertEqual(put(text, path, text), [refusal])
            self.assertEqual(put(one, path, text), [refusal - 10])

    def test_the_empty_text(self):
        self.assertEqual(where([]), [3, 0])
        self.check_refused([], -3)

    def test_blanks_and_comments_alone(self):
        for length in [1, 2047, 2048]:
            for written in [" " * length, "#" * length, "\n" * length]:
                self.assertEqual(where(as_bytes(written)), [3, length])
                self.check_refused(as_bytes(written), -3)

    def test_2049_and_4096_bytes(self):
        for length in [2049, 2050, 4095, 4096]:
            for written in ["a" + " " * 4095, '"' * 4096, "(" * 4096, "!" * 4096, "[]" * 2048, "\x00" * 4096]:
                text = as_bytes(written[:length])
                self.assertEqual(where(text), [1, 0])
                self.check_refused(text, -1)

    def test_2048_bytes_that_print_short(self):
        text, one = as_bytes(" " * 1000 + "-a" + " " * 1046), as_bytes("1")
        self.assertEqual(len(text), 2048)
        self.assertEqual(where(text), [0, 0])
        self.assertEqual(plain(text), [0] + as_bytes("-a"))
        self.assertEqual(tree(text), [0, 12, 0, 1, 5, 1, 1, 97, 0])
        self.assertEqual([same(text, text), same(text, one), same(one, text)], [[1], [0], [0]])
        self.assertEqual(part(text, [0]), [0] + as_bytes("a"))
        self.assertEqual(put(text, [0], text), [0] + as_bytes("--a"))
        self.assertEqual(sizes(text), [0, 2, 2, 2])

    def test_2048_bytes_that_print_as_they_are(self):
        text, one = as_bytes('"' + "a" * 2042 + '${b}"'), as_bytes("1")
        self.assertEqual(len(text), 2048)
        self.assertEqual(where(text), [0, 0])
        self.assertEqual(plain(text), [0] + text)
        self.assertEqual(tree(text), [0, 6, 0, 2, 0, 1, 2042] + [97] * 2042 + [0, 5, 1, 1, 98, 0])
        self.assertEqual([same(text, text), same(text, one), same(one, text)], [[1], [0], [0]])
        self.assertEqual(part(text, []), [0] + text)
        self.assertEqual(part(text, [1]), [0] + as_bytes("b"))
        self.assertEqual(part(text, [0]), [-7])
        self.assertEqual(put(one, [], text), [0] + text)
        self.assertEqual(put(text, [1], as_bytes("c")), [0] + text[:-3] + as_bytes('c}"'))
        self.assertEqual(put(text, [1], as_bytes("cd")), [-8])
        self.assertEqual(sizes(text), [0, 3, 2, 2048])

    def test_2048_bytes_that_cannot_be_read(self):
        for written, refusal, place in [
            ("a" + " " * 2046 + "!", -2, 2047), ('"' + "a" * 2047, -2, 2048), ("a" + " " * 2046 + ")", -3, 2047),
            ("a" + " " * 2046 + "+", -3, 2048), ("(" * 2048, -4, 40), ("{a=1;" + " " * 2042 + "a", -5, 2047),
            ("-" * 2047 + "1", -6, 0),
        ]:
            self.assertEqual(len(written), 2048)
            self.assertEqual(where(as_bytes(written)), [-refusal, place])
            self.check_refused(as_bytes(written), refusal)


if __name__ == "__main__":
    unittest.main()
