"""Promise 7: sizes tells how many nodes the tree has, its depth, and how long its printed form is."""

import unittest

from recipetexts.texts import plain, sizes
from tests.helper import OPERATORS, PLAIN_PLACES, RANKED, RANKED_PLACES, REFUSED, RecipeTest
from tests.helper import as_bytes, count_nodes, crowded_recipe, depth_of, fill, tree_of, unfold

# A recipe of each kind, by its number, as it is printed; its nodes and its depth.
EACH_KIND = (
    (0, '"abc"', 2, 2), (0, '"${a}b"', 3, 2), (0, '"\\n\\$"', 2, 2),
    (1, "0", 1, 1), (1, "123456789012345678901234567890", 1, 1),
    (2, "true", 1, 1), (3, "false", 1, 1), (4, "none", 1, 1),
    (5, "a", 1, 1), (5, "a-b_9", 1, 1),
    (6, '""', 1, 1), (6, '"${a}"', 2, 2), (6, '"a${b}c${"d"}"', 6, 3), (6, '"${""}"', 2, 2),
    (7, "[]", 1, 1), (7, "[a]", 2, 2), (7, "[a, b, c]", 4, 2), (7, "[a, [b], [[]]]", 6, 3),
    (8, "{}", 1, 1), (8, "{ a = 1; }", 2, 2), (8, "{ a = 1; b = {}; c = [2]; }", 5, 3),
    (9, "rec {}", 1, 1), (9, "rec { a = b; b = a; }", 3, 2),
    (10, "r.a", 2, 2), (10, "r.a.b.c", 2, 2), (10, "r.a ? 1", 3, 2), (10, "r.a ? (s.b)", 4, 3),
    (11, "f x", 3, 2), (11, "f x y", 5, 3), (11, "f (x y)", 5, 3),
    (12, "-a", 2, 2), (12, "---a", 4, 4),
    (13, "not a", 2, 2), (13, "not not a", 3, 3),
    (14, "a has b", 2, 2),
    (15, "fn x: a", 2, 2), (15, "fn x: fn y: a", 3, 3),
    (16, "fn {}: a", 2, 2), (16, "fn {x}: a", 3, 2), (16, "fn {x, y, z}: a", 5, 2),
    (17, "fn {..}: a", 2, 2), (17, "fn {x, ..}: a", 3, 2), (17, "fn {x ? 1, ..}: a", 4, 3),
    (18, "fn {x ? 1}: a", 4, 3), (18, "fn {x, y ? [1]}: a", 6, 4), (18, "fn {x ? 1, y ? 2}: a", 6, 3),
    (19, "let x = 1; in a", 3, 2), (19, "let x = 1; y = [2]; in a", 5, 3), (19, "let x = 1; in [a]", 4, 3),
    (20, "if a then b else c", 4, 2), (20, "if a then b else [c]", 5, 3),
    (21, "must a; b", 3, 2), (21, "must [a]; b", 4, 3),
)


def written_applyings(unfolded):
    """The print of a tree that has applyings, lists, names and numbers alone."""
    kind, labels, kids = unfolded
    parts = [written_applyings(kid) for kid in kids]
    if kind == 11 and kids[1][0] == 11:
        parts[1] = "(" + parts[1] + ")"
    return {1: "".join(labels), 5: "".join(labels), 7: "[" + ", ".join(parts) + "]", 11: " ".join(parts)}[kind]


class EachKind(RecipeTest):
    def test_up_to_21(self):
        for kind, written, nodes, depth in EACH_KIND:
            self.assert_sizes(written, nodes, depth, len(written))
        self.assertEqual({kind for kind, written, nodes, depth in EACH_KIND}, set(range(22)))

    def test_two_operands(self):
        for sign in OPERATORS:
            self.assert_sizes(f"(a){sign}(b)", 3, 2, 4 + len(sign))
            self.assert_sizes(f"[a] {sign} [[b]]", 6, 4, 10 + len(sign))

    def test_whole_answers(self):
        self.assertEqual(sizes(as_bytes("1")), [0, 1, 1, 1])
        self.assertEqual(sizes(as_bytes('""')), [0, 1, 1, 2])
        self.assertEqual(sizes(as_bytes("{}")), [0, 1, 1, 2])
        self.assertEqual(sizes(as_bytes('"a"')), [0, 2, 2, 3])
        self.assertEqual(sizes(as_bytes("f(x)")), [0, 3, 2, 3])
        self.assertEqual(sizes(as_bytes("fn{x?1}:a")), [0, 4, 3, 13])

    def test_each_place(self):
        for place, paths in PLAIN_PLACES:
            self.check_tree(fill(place, ["[q, [q]]"] * len(paths)))
        for place, rank, path in RANKED_PLACES:
            for kid in RANKED:
                self.check_tree(fill(place, ["(" + kid + ")"]))

    def check_tree(self, written):
        unfolded = unfold(tree_of(written)[1:])
        printed = len(plain(as_bytes(written))) - 1
        self.assert_sizes(written, count_nodes(unfolded), depth_of(unfolded), printed)


class WhatCounts(RecipeTest):
    def test_parentheses_count_in_neither(self):
        self.assert_sizes("(a)", 1, 1, 1)
        self.assert_sizes("(" * 39 + "1" + ")" * 39, 1, 1, 1)
        self.assert_sizes("((a) + (b)) * (c)", 5, 3, 11)
        self.assert_sizes("(a * b) + (c)", 5, 3, 9)

    def test_blanks_and_comments_do_not_count(self):
        self.assert_sizes(" \t\r\n a # b\n # c", 1, 1, 1)
        self.assert_sizes("a" + " " * 2047, 1, 1, 1)
        self.assert_sizes("[a,b,# c\nd]", 4, 2, 9)

    def test_pieces_count_once_whatever_their_length(self):
        self.assert_sizes('"a"', 2, 2, 3)
        self.assert_sizes('"' + "a" * 2046 + '"', 2, 2, 2048)
        self.assert_sizes('"a${b}c"', 4, 2, 8)
        self.assert_sizes('"a\\$\n${"b"}"', 4, 3, 13)

    def test_params_count_with_and_without_a_default(self):
        self.assert_sizes("fn {a}: 1", 3, 2, 9)
        self.assert_sizes("fn {a ? 1}: 1", 4, 3, 13)
        self.assert_sizes("fn {a ? fn {b ? 1}: 2}: 3", 7, 5, 25)

    def test_labels_are_no_nodes(self):
        self.assert_sizes("r.a", 2, 2, 3)
        self.assert_sizes("r" + ".a" * 1000, 2, 2, 2001)
        self.assert_sizes("a has b", 2, 2, 7)

    def test_the_dots_of_open_are_no_node(self):
        self.assert_sizes("fn {a}: 1", 3, 2, 9)
        self.assert_sizes("fn {a, ..}: 1", 3, 2, 13)

    def test_the_deepest_kid_counts_wherever_it_stands(self):
        for written in ["[[[a]], b, c]", "[b, [[a]], c]", "[b, c, [[a]]]"]:
            self.assert_sizes(written, 6, 4, 13)


class Ends(RecipeTest):
    def test_depth_1_to_40(self):
        for depth in range(1, 41):
            self.assert_sizes("-" * (depth - 1) + "a", depth, depth, depth)
            self.assert_sizes("[" * depth + "]" * depth, depth, depth, 2 * depth)
            self.assert_sizes("+".join(["1"] * depth), 2 * depth - 1, depth, 4 * depth - 3)
            self.assert_sizes("++".join(["1"] * depth), 2 * depth - 1, depth, 5 * depth - 4)
        self.assert_fault("-" * 40 + "a", 6, 0)
        self.assert_fault("+".join(["1"] * 41), 6, 0)

    def test_printed_forms_around_2048_bytes(self):
        self.assert_sizes('"' + "$" * 1022 + 'a"', 2, 2, 2047)
        self.assert_sizes('"' + "$" * 1023 + '"', 2, 2, 2048)
        self.assert_sizes('"' + "$" * 1023 + 'a"', 2, 2, 2049)
        self.assert_sizes('"' + "$" * 1024 + '"', 2, 2, 2050)

    def test_long_printed_forms(self):
        self.assert_sizes('"' + "$" * 2046 + '"', 2, 2, 4094)
        self.assert_sizes('"' + "\n\t" * 1023 + '"', 2, 2, 4094)
        self.assert_sizes("[" + "1," * 1022 + "1]", 1024, 2, 2 + 1023 + 2 * 1022)
        self.assert_sizes("[" + "1a," * 681 + "1a]", 2047, 3, 2 + 3 * 682 + 2 * 681)
        names = [first + second for first in "ABCDEFGHIJKLMNOPQ" for second in "abcdefghijklmnopqrst"]
        binds = "".join(name + "=1;" for name in names)
        self.assert_sizes("{" + binds + "}", 341, 2, 4 + 8 * 340 - 1)
        self.assert_sizes("let " + binds + "in a", 342, 2, 4 + 8 * 340 - 1 + 5)

    def test_as_many_nodes_as_were_found(self):
        recipe = crowded_recipe()
        self.assertEqual(len(recipe), 2048)
        unfolded = unfold(tree_of(recipe)[1:])
        self.assertEqual(count_nodes(unfolded), 3072)
        self.assert_sizes(recipe, 3072, 40, len(written_applyings(unfolded)))

    def test_many_kids(self):
        self.assert_sizes("[" + "1," * 600 + "1]", 602, 2, 2 + 601 + 2 * 600)
        self.assert_sizes('"' + "${a}" * 511 + '"', 512, 2, 2046)


class Refusals(RecipeTest):
    def test_each_alone_in_its_list(self):
        for written, refusal in REFUSED:
            self.assertEqual(sizes(as_bytes(written)), [refusal])

    def test_the_empty_text(self):
        self.assertEqual(sizes([]), [-3])

    def test_deep_and_long(self):
        self.assertEqual(sizes(as_bytes("-" * 2000 + "1")), [-6])
        self.assertEqual(sizes(as_bytes("[" * 41 + "]" * 41)), [-4])
        self.assertEqual(sizes(as_bytes("a" + " " * 2048)), [-1])


if __name__ == "__main__":
    unittest.main()
