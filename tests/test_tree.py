"""Promise 3: tree tells the text's tree as numbers."""

import unittest

from tests.helper import OPERATORS, REFUSED, RecipeTest, as_bytes, count_nodes, crowded_recipe, node, tree_of, unfold

ONE = node(1, ["1"])
TWO = node(1, ["2"])
A = node(5, ["a"])
B = node(5, ["b"])
C = node(5, ["c"])


class WrittenOut(RecipeTest):
    """Whole answers, number by number."""

    def test_one_node(self):
        self.assertEqual(tree_of("0"), [0, 1, 1, 1, 48, 0])
        self.assertEqual(tree_of("true"), [0, 2, 0, 0])
        self.assertEqual(tree_of("ab"), [0, 5, 1, 2, 97, 98, 0])
        self.assertEqual(tree_of('""'), [0, 6, 0, 0])

    def test_kids_come_in_order_and_whole(self):
        self.assertEqual(tree_of("[[1], 2]"), [0, 7, 0, 2, 7, 0, 1, 1, 1, 1, 49, 0, 1, 1, 1, 50, 0])
        self.assertEqual(tree_of("-a b"), [0, 12, 0, 1, 11, 0, 2, 5, 1, 1, 97, 0, 5, 1, 1, 98, 0])

    def test_labels_come_before_kids(self):
        self.assertEqual(
            tree_of("{ a = none; bc = r.d; }"),
            [0, 8, 2, 1, 97, 2, 98, 99, 2, 4, 0, 0, 10, 1, 1, 100, 1, 5, 1, 1, 114, 0],
        )

    def test_a_piece_between_holes(self):
        self.assertEqual(
            tree_of('"${a}\\n\xff${true}"'),
            [0, 6, 0, 3, 5, 1, 1, 97, 0, 0, 1, 2, 10, 255, 0, 2, 0, 0],
        )


class Atoms(RecipeTest):
    def test_numbers(self):
        for digits in ["0", "7", "10", "123456789012345678901234567890"]:
            self.assert_tree(digits, node(1, [digits]))

    def test_truths_and_none(self):
        self.assert_tree("true", node(2, []))
        self.assert_tree("false", node(3, []))
        self.assert_tree("none", node(4, []))

    def test_names(self):
        for name in ["a", "letter", "a-b_9", "Z" * 32]:
            self.assert_tree(name, node(5, [name]))

    def test_texts(self):
        self.assert_tree('""', node(6, []))
        self.assert_tree('"a"', node(6, [], node(0, ["a"])))
        self.assert_tree('"${a}"', node(6, [], A))
        self.assert_tree('"${a}${b}"', node(6, [], A, B))
        self.assert_tree('"x${a}yz${b}w"', node(6, [], node(0, ["x"]), A, node(0, ["yz"]), B, node(0, ["w"])))
        self.assert_tree('"${a} ${b}"', node(6, [], A, node(0, [" "]), B))
        self.assert_tree('"${"a"}"', node(6, [], node(6, [], node(0, ["a"]))))
        self.assert_tree('"${""}"', node(6, [], node(6, [])))

    def test_pieces_hold_the_bytes_that_are_stood_for(self):
        self.assert_tree('"\\"\\\\\\n\\t\\$"', node(6, [], node(0, ['"\\\n\t$'])))
        self.assert_tree('"\n\t$ {}#"', node(6, [], node(0, ["\n\t$ {}#"])))
        self.assert_tree('"a\\nb"', node(6, [], node(0, ["a\nb"])))
        self.assert_tree('"\\${a}"', node(6, [], node(0, ["${a}"])))
        self.assert_tree('"$${a}"', node(6, [], node(0, ["$"]), A))

    def test_every_high_byte_in_a_piece(self):
        high = "".join(chr(byte) for byte in range(127, 256))
        self.assert_tree('"' + high + '"', node(6, [], node(0, [high])))

    def test_lists(self):
        self.assert_tree("[]", node(7, []))
        self.assert_tree("[a]", node(7, [], A))
        self.assert_tree("[a, 1, b]", node(7, [], A, ONE, B))

    def test_records(self):
        for before, kind in [("", 8), ("rec ", 9)]:
            self.assert_tree(before + "{}", node(kind, []))
            self.assert_tree(before + "{ x = 1; }", node(kind, ["x"], ONE))
            self.assert_tree(before + "{ x = 1; long-name = a; b = []; }",
                             node(kind, ["x", "long-name", "b"], ONE, A, node(7, [])))


class Gets(RecipeTest):
    def test_dots(self):
        self.assert_tree("a.b", node(10, ["b"], A))
        self.assert_tree("a.b.cde.b", node(10, ["b", "cde", "b"], A))
        self.assert_tree("(a.b).c", node(10, ["c"], node(10, ["b"], A)))

    def test_defaults(self):
        self.assert_tree("a.b ? 1", node(10, ["b"], A, ONE))
        self.assert_tree("a.b.c ? {}", node(10, ["b", "c"], A, node(8, [])))
        self.assert_tree("a.b ? (c.d ? 1)", node(10, ["b"], A, node(10, ["d"], C, ONE)))

    def test_a_default_is_one_atom(self):
        self.assert_tree("a.b ? 1 2", node(11, [], node(10, ["b"], A, ONE), TWO))

    def test_dots_bind_closer_than_applying(self):
        self.assert_tree("a b.c", node(11, [], A, node(10, ["c"], B)))
        self.assert_tree("a.c b", node(11, [], node(10, ["c"], A), B))


class SignsBefore(RecipeTest):
    def test_neg(self):
        self.assert_tree("-a", node(12, [], A))
        self.assert_tree("- -1", node(12, [], node(12, [], ONE)))
        self.assert_tree("-a b", node(12, [], node(11, [], A, B)))
        self.assert_tree("-a * b", node(32, [], node(12, [], A), B))

    def test_not(self):
        self.assert_tree("not a", node(13, [], A))
        self.assert_tree("not not a", node(13, [], node(13, [], A)))
        self.assert_tree("not a == b", node(13, [], node(24, [], A, B)))
        self.assert_tree("not a and b", node(23, [], node(13, [], A), B))

    def test_has(self):
        self.assert_tree("a has b", node(14, ["b"], A))
        self.assert_tree("a // b has xyz", node(14, ["xyz"], node(28, [], A, B)))


class Functions(RecipeTest):
    def test_fn(self):
        self.assert_tree("fn x: a", node(15, ["x"], A))
        self.assert_tree("fn abc: fn d: a", node(15, ["abc"], node(15, ["d"], A)))

    def test_fields(self):
        x, y = node(18, ["x"]), node(18, ["yy"], ONE)
        self.assert_tree("fn {}: a", node(16, [], A))
        self.assert_tree("fn {x}: a", node(16, [], x, A))
        self.assert_tree("fn {yy ? 1}: a", node(16, [], y, A))
        self.assert_tree("fn {x, yy ? 1}: a", node(16, [], x, y, A))
        self.assert_tree("fn {yy ? 1, x}: a", node(16, [], y, x, A))

    def test_fields_with_dots_are_another_kind(self):
        x, y = node(18, ["x"]), node(18, ["yy"], ONE)
        self.assert_tree("fn {..}: a", node(17, [], A))
        self.assert_tree("fn {x, ..}: a", node(17, [], x, A))
        self.assert_tree("fn {yy ? 1, x, ..}: a", node(17, [], y, x, A))

    def test_defaults_of_params_are_whole(self):
        self.assert_tree("fn {x ? fn y: 1, z}: a",
                         node(16, [], node(18, ["x"], node(15, ["y"], ONE)), node(18, ["z"]), A))
        self.assert_tree("fn {x ? fn {y, ..}: 1}: a",
                         node(16, [], node(18, ["x"], node(17, [], node(18, ["y"]), ONE)), A))


class OtherForms(RecipeTest):
    def test_let(self):
        self.assert_tree("let x = 1; in a", node(19, ["x"], ONE, A))
        self.assert_tree("let x = 1; yy = 2; z = b; in a", node(19, ["x", "yy", "z"], ONE, TWO, B, A))

    def test_if(self):
        self.assert_tree("if a then b else c", node(20, [], A, B, C))

    def test_must(self):
        self.assert_tree("must a; b", node(21, [], A, B))


class TwoOperands(RecipeTest):
    def test_each_kind(self):
        for kind, sign in enumerate(OPERATORS, start=22):
            self.assert_tree(f"a {sign} b", node(kind, [], A, B))

    def test_gathered_from_the_left(self):
        for kind, sign in [(22, "or"), (23, "and"), (30, "+"), (31, "-"), (32, "*")]:
            self.assert_tree(f"a {sign} b {sign} c", node(kind, [], node(kind, [], A, B), C))
            self.assert_tree(f"a {sign} (b {sign} c)", node(kind, [], A, node(kind, [], B, C)))
        self.assert_tree("a - b + c", node(30, [], node(31, [], A, B), C))
        self.assert_tree("a + b - c", node(31, [], node(30, [], A, B), C))

    def test_gathered_from_the_right(self):
        for kind, sign in [(28, "//"), (29, "++")]:
            self.assert_tree(f"a {sign} b {sign} c", node(kind, [], A, node(kind, [], B, C)))
            self.assert_tree(f"(a {sign} b) {sign} c", node(kind, [], node(kind, [], A, B), C))

    def test_applying(self):
        self.assert_tree("a b", node(11, [], A, B))
        self.assert_tree("a b c", node(11, [], node(11, [], A, B), C))
        self.assert_tree("a (b c)", node(11, [], A, node(11, [], B, C)))
        self.assert_tree("1a", node(11, [], ONE, A))

    def test_what_binds_closer(self):
        looser_first = [(22, "or"), (23, "and"), (24, "=="), (28, "//"), (29, "++"), (30, "+"), (32, "*")]
        for place, (loose, sign) in enumerate(looser_first):
            for close, other in looser_first[place + 1:]:
                self.assert_tree(f"a {other} b {sign} c", node(loose, [], node(close, [], A, B), C))
                self.assert_tree(f"a {sign} b {other} c", node(loose, [], A, node(close, [], B, C)))


class Parentheses(RecipeTest):
    def test_they_make_no_node(self):
        self.assert_tree("(a)", A)
        self.assert_tree("(" * 39 + "a" + ")" * 39, A)
        self.assert_tree("((a) + (b))", node(30, [], A, B))
        self.assert_tree("(a)(b)", node(11, [], A, B))
        self.assert_tree("[(a), ((b))]", node(7, [], A, B))
        self.assert_tree('"${(a)}"', node(6, [], A))
        self.assert_tree("(a).b ? (c)", node(10, ["b"], A, C))

    def test_nor_do_blanks_and_comments(self):
        self.assert_tree(" \t\r\n a # b\n # c", A)


class Refusals(RecipeTest):
    def test_each_alone_in_its_list(self):
        for written, refusal in REFUSED:
            self.assertEqual(tree_of(written), [refusal])

    def test_no_refusal_of_a_long_print(self):
        self.assert_tree('"' + "$" * 2046 + '"', node(6, [], node(0, ["$" * 2046])))

    def test_depth_40_and_41(self):
        numbers = A
        for count in range(39):
            numbers = node(12, [], numbers)
        self.assert_tree("-" * 39 + "a", numbers)
        self.assertEqual(tree_of("-" * 40 + "a"), [-6])

    def test_sum_of_depth_40_and_41(self):
        numbers = ONE
        for count in range(39):
            numbers = node(30, [], numbers, ONE)
        self.assert_tree("+".join(["1"] * 40), numbers)
        self.assertEqual(tree_of("+".join(["1"] * 41)), [-6])

    def test_join_of_depth_40_and_41(self):
        numbers = A
        for count in range(39):
            numbers = node(29, [], A, numbers)
        self.assert_tree("++".join(["a"] * 40), numbers)
        self.assertEqual(tree_of("++".join(["a"] * 41)), [-6])

    def test_lists_of_level_40(self):
        numbers = node(7, [])
        for count in range(39):
            numbers = node(7, [], numbers)
        self.assert_tree("[" * 40 + "]" * 40, numbers)
        self.assertEqual(tree_of("[" * 41 + "]" * 41), [-4])


def written_applyings(unfolded):
    kind, labels, kids = unfolded
    inner = "".join(labels) + "".join(written_applyings(kid) for kid in kids)
    return {1: inner, 5: inner, 7: "[" + inner + "]", 11: inner}[kind]


class ManyNodes(RecipeTest):
    def test_applyings_in_lists(self):
        recipe = crowded_recipe()
        self.assertEqual(len(recipe), 2048)
        answer = tree_of(recipe)
        self.assertEqual(answer[0], 0)
        unfolded = unfold(answer[1:])
        self.assertEqual(written_applyings(unfolded), recipe)
        self.assertEqual(count_nodes(unfolded), 3072)

    def test_elements_side_by_side(self):
        self.assert_tree("[" + "1," * 1022 + "1] ", node(7, [], *[ONE] * 1023))

    def test_minus_signs_side_by_side(self):
        numbers = A
        for count in range(38):
            numbers = node(12, [], numbers)
        self.assert_tree("[" + ",".join(["-" * 38 + "a"] * 51) + "]", node(7, [], *[numbers] * 51))

    def test_holes_side_by_side(self):
        self.assert_tree('"' + "${a}" * 511 + '"', node(6, [], *[A] * 511))

    def test_many_labels(self):
        self.assert_tree("a" + ".b" * 1023, node(10, ["b"] * 1023, A))
        names = [first + second for first in "ABCDEFGHIJKLMNOP" for second in "abcdefghijklmnopqrs"]
        binds = "".join(name + "=1;" for name in names)
        self.assert_tree("{" + binds + "}", node(8, names, *[ONE] * len(names)))
        self.assert_tree("let " + binds + "in a", node(19, names, *[ONE] * len(names), A))
        self.assert_tree("fn {" + ",".join(names) + "}: a", node(16, [], *[node(18, [name]) for name in names], A))

    def test_one_long_label(self):
        self.assertEqual(tree_of('"' + "a" * 2046 + '"'), [0, 6, 0, 1, 0, 1, 2046] + as_bytes("a" * 2046) + [0])


if __name__ == "__main__":
    unittest.main()
