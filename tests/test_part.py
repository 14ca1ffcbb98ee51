"""Promise 5: part prints the tree to which the path leads."""

import unittest

from recipetexts.texts import part, plain
from tests.helper import NOWHERE, OPERATORS, PLAIN_PLACES, RANKED, RANKED_PLACES, REFUSED, RecipeTest
from tests.helper import as_bytes, fill, tree_of, unfold

# Below 0, the count of kids of a node with three, and far away.
WRONG_NUMBERS = (-1, -2, -3, -4, 3, 4, 2048, 2 ** 31, -2 ** 31, 2 ** 32, -2 ** 32, 10 ** 18, -10 ** 18, 10 ** 18 - 1)

WITHOUT_KIDS = ("1", "true", "false", "none", "a", '""', "[]", "{}", "rec {}")


class EachPlace(RecipeTest):
    def test_each_kid_of_each_kind(self):
        for place, paths in PLAIN_PLACES:
            kids = ["kid" + str(k) for k in range(len(paths))]
            for path, kid in zip(paths, kids):
                self.assert_part(fill(place, kids), path, kid)

    def test_each_kid_without_its_parentheses(self):
        for place, rank, path in RANKED_PLACES:
            for kid in RANKED:
                self.assert_part(fill(place, ["(" + kid + ")"]), path, kid)

    def test_both_of_two_kids(self):
        for between in ["", ".k ?", *OPERATORS]:
            self.assert_part(f"(a or b) {between} (c or d)", [0], "a or b")
            self.assert_part(f"(a or b) {between} (c or d)", [1], "c or d")


class Paths(RecipeTest):
    def test_the_empty_path(self):
        for written, printed in [("a", "a"), (" ( a+b )*c # d", "(a + b) * c"), ('"a\n${ b }"', '"a\\n${b}"')]:
            self.assert_part(written, [], printed)
        for place, paths in PLAIN_PLACES:
            text = as_bytes(fill(place, ["( f  x )"] * len(paths)))
            self.assertEqual(part(text, []), plain(text))

    def test_the_printed_form_of_the_part_alone(self):
        self.assert_part("(a + b) * c", [0], "a + b")
        self.assert_part("(a + b) * c", [1], "c")
        self.assert_part("a.b ? (c.d)", [1], "c.d")
        self.assert_part("(fn x: x) 1", [0], "fn x: x")
        self.assert_part("f ((((g))) ((x)))", [1], "g x")
        self.assert_part("(-a) * (-(-b))", [1, 0], "-b")

    def test_gathering(self):
        self.assert_part("a - b + c", [0], "a - b")
        self.assert_part("a - b + c", [0, 0], "a")
        self.assert_part("a - b + c", [1], "c")
        self.assert_part("f x y", [0], "f x")
        self.assert_part("f x y", [0, 1], "x")
        self.assert_part("a ++ b ++ c", [0], "a")
        self.assert_part("a ++ b ++ c", [1], "b ++ c")
        self.assert_part("a // b // c", [1, 1], "c")

    def test_several_steps(self):
        written = 'let x = [1, { y = f (g "a${h.k.l ? (2 + 3)}"); }]; in fn {z ? x.y}: must z; z'
        for path, printed in [
            ([0], '[1, { y = f (g "a${h.k.l ? (2 + 3)}"); }]'),
            ([0, 0], "1"),
            ([0, 1], '{ y = f (g "a${h.k.l ? (2 + 3)}"); }'),
            ([0, 1, 0], 'f (g "a${h.k.l ? (2 + 3)}")'),
            ([0, 1, 0, 0], "f"),
            ([0, 1, 0, 1], 'g "a${h.k.l ? (2 + 3)}"'),
            ([0, 1, 0, 1, 1], '"a${h.k.l ? (2 + 3)}"'),
            ([0, 1, 0, 1, 1, 1], "h.k.l ? (2 + 3)"),
            ([0, 1, 0, 1, 1, 1, 0], "h"),
            ([0, 1, 0, 1, 1, 1, 1], "2 + 3"),
            ([0, 1, 0, 1, 1, 1, 1, 1], "3"),
            ([1], "fn {z ? x.y}: must z; z"),
            ([1, 0, 0], "x.y"),
            ([1, 0, 0, 0], "x"),
            ([1, 1], "must z; z"),
            ([1, 1, 1], "z"),
        ]:
            self.assert_part(written, path, printed)

    def test_a_text_in_a_hole(self):
        self.assert_part('"a${"b"}"', [1], '"b"')
        self.assert_part('"${"${"a"}"}"', [0], '"${"a"}"')
        self.assert_part('"${"${"a"}"}"', [0, 0], '"a"')

    def test_to_the_ground_of_a_deep_tree(self):
        for count in range(40):
            self.assert_part("-" * 39 + "a", [0] * count, "-" * (39 - count) + "a")
        self.assert_part("[" * 40 + "]" * 40, [0] * 39, "[]")
        self.assert_part("+".join(["1"] + ["2"] * 39), [0] * 39, "1")
        self.assert_part("++".join(["1"] * 39 + ["2"]), [1] * 39, "2")

    def test_among_many_kids(self):
        written = "[" + ",".join(str(k) for k in range(500)) + "]"
        for k in [0, 1, 250, 498, 499]:
            self.assert_part(written, [k], str(k))
        self.assertEqual(part(as_bytes(written), [500]), [-7])


class Nowhere(RecipeTest):
    def assert_nowhere(self, written, path):
        self.assert_reads(written)
        self.assertEqual(part(as_bytes(written), path), [-7], (written, path))

    def test_wrong_numbers(self):
        for number in WRONG_NUMBERS:
            self.assert_nowhere("[a, b, c]", [number])
            self.assert_nowhere("[[a, [b, c, d], e]]", [0, 1, number])
            self.assert_nowhere("[[a, [b, c, d], e]]", [0, number, 1])
            self.assert_nowhere("if a then b else c", [number])
            self.assert_nowhere("fn {x ? [1, 2, 3]}: 4", [0, 0, number])

    def test_the_count_of_kids(self):
        for place, paths in PLAIN_PLACES:
            self.check_count(fill(place, ["a"] * len(paths)))
        for place, rank, path in RANKED_PLACES:
            self.check_count(fill(place, ["a"]))

    def check_count(self, written):
        count = len(unfold(tree_of(written)[1:])[2])
        for number in [count, -1, -count]:
            self.assert_nowhere(written, [number])
            self.assert_nowhere("[b, " + written + "]", [1, number])

    def test_labels_are_no_kids(self):
        self.assert_nowhere("{ a = 1; }", [1])
        self.assert_nowhere("let a = 1; in 2", [2])
        self.assert_nowhere("r.a.b", [1])

    def test_behind_a_node_without_kids(self):
        for written in WITHOUT_KIDS:
            for number in [0, 1, -1, 10 ** 18, -10 ** 18]:
                self.assert_nowhere(written, [number])
                self.assert_nowhere("[" + written + "]", [0, number])
                self.assert_nowhere(written, [number, 0])

    def test_a_piece(self):
        self.assert_nowhere('"a"', [0])
        self.assert_nowhere('"a"', [0, 0])
        self.assert_nowhere('"a${b}c"', [0])
        self.assert_nowhere('"a${b}c"', [2])
        self.assert_nowhere('"a${b}c"', [3])
        self.assert_nowhere('["${"a"}"]', [0, 0, 0])
        self.assert_part('"a${b}c"', [1], "b")

    def test_a_param(self):
        for dots in ["", ", .."]:
            written = "fn {a, b ? (1)" + dots + "}: c"
            self.assert_nowhere(written, [0])
            self.assert_nowhere(written, [1])
            self.assert_nowhere(written, [0, 0])
            self.assert_nowhere(written, [1, 1])
            self.assert_nowhere(written, [1, -1])
            self.assert_nowhere(written, [3])
            self.assert_part(written, [1, 0], "1")
            self.assert_part(written, [2], "c")

    def test_through_params(self):
        written = "fn {a ? fn {b ? fn {c ? [1, 2]}: 3}: 4}: 5"
        self.assert_part(written, [0, 0], "fn {b ? fn {c ? [1, 2]}: 3}: 4")
        self.assert_part(written, [0, 0, 0, 0, 0, 0], "[1, 2]")
        self.assert_part(written, [0, 0, 0, 0, 0, 0, 1], "2")
        self.assert_part(written, [0, 0, 0, 0, 1], "3")
        self.assert_nowhere(written, [0, 0, 0])
        self.assert_nowhere(written, [0, 0, 0, 0, 0])

    def test_the_dots_of_open_are_no_kid(self):
        self.assert_part("fn {..}: a", [0], "a")
        self.assert_nowhere("fn {..}: a", [1])
        self.assert_nowhere("fn {x, ..}: a", [2])

    def test_64_numbers(self):
        self.assert_nowhere("-" * 39 + "a", [0] * 64)
        self.assert_nowhere("[" * 40 + "]" * 40, [0] * 64)
        for number in [0, 1, -1, 10 ** 18, -10 ** 18]:
            self.assert_nowhere("[a, b]", [number] * 64)
            self.assert_nowhere("[a, b]", [1] + [number] * 63)


class Refusals(RecipeTest):
    def test_each_refusal_of_reading_is_alone_and_comes_first(self):
        for written, refusal in REFUSED:
            for path in [[], [0], *NOWHERE]:
                self.assertEqual(part(as_bytes(written), path), [refusal])

    def test_the_empty_text(self):
        self.assertEqual(part([], []), [-3])
        self.assertEqual(part([], [0]), [-3])

    def test_a_part_of_2048_and_2049_bytes(self):
        longest, longer = '"' + "$" * 1023 + '"', '"' + "$" * 1023 + 'a"'
        printed = [0] + as_bytes('"' + "\\$" * 1023 + '"')
        self.assertEqual(part(as_bytes(longest), []), printed)
        self.assertEqual(part(as_bytes(longer), []), [-8])
        for place, rank, path in RANKED_PLACES:
            self.assertEqual(part(as_bytes(fill(place, [longest])), path), printed)
            self.assertEqual(part(as_bytes(fill(place, [longer])), path), [-8])

    def test_the_parentheses_around_a_part_do_not_count(self):
        row = ",".join(["1"] * 680)
        written = "([" + row + "] + a) * b"
        self.assertEqual(len(row.replace(",", ", ")), 2038)
        self.assert_part(written, [0], "[" + row.replace(",", ", ") + "] + a")
        longer = written.replace("+ a", "+ " + "a" * 5)
        self.assertEqual(part(as_bytes(longer), [0])[0], 0)
        self.assertEqual(len(part(as_bytes(longer), [0])), 2049)
        self.assertEqual(part(as_bytes(longer), []), [-8])
        self.assertEqual(part(as_bytes(longer.replace("aaaaa", "aaaaaa")), [0]), [-8])

    def test_a_short_part_of_a_text_that_prints_too_long(self):
        written = '["' + "$" * 1500 + '", f (x), [2]]'
        self.assertEqual(plain(as_bytes(written)), [-8])
        self.assertEqual(part(as_bytes(written), []), [-8])
        self.assertEqual(part(as_bytes(written), [0]), [-8])
        self.assert_part(written, [1], "f x")
        self.assert_part(written, [2, 0], "2")

    def test_nowhere_comes_before_too_long(self):
        written = '["' + "$" * 1500 + '"]'
        for path in NOWHERE:
            self.assertEqual(part(as_bytes(written), path), [-7])
        self.assertEqual(part(as_bytes(written), [0, 0]), [-7])


if __name__ == "__main__":
    unittest.main()
