"""Every example that the document gives, of every call that it bears on.

What prints is asked of plain, part and put, what is refused of all the calls: see the helper.
"""

import unittest

from tests.helper import RecipeTest, node

A, B, C = node(5, ["a"]), node(5, ["b"]), node(5, ["c"])
F, X, Y = node(5, ["f"]), node(5, ["x"]), node(5, ["y"])
ONE, TWO = node(1, ["1"]), node(1, ["2"])


class ExampleTest(RecipeTest):
    def assert_recipe(self, written, printed, numbers):
        self.assert_prints(written, printed)
        self.assert_tree(written, numbers)


class TokenExamples(ExampleTest):
    def test_names_and_minus(self):
        self.assert_recipe("a-b", "a-b", node(5, ["a-b"]))
        self.assert_recipe("a - b", "a - b", node(31, [], A, B))
        self.assert_recipe("a -b", "a - b", node(31, [], A, B))
        self.assert_recipe("letter", "letter", node(5, ["letter"]))
        self.assert_same("a - b", "a -b")
        self.assert_differ("a-b", "a - b")

    def test_the_words_are_no_names(self):
        words = "and else false fn has if in let must none not or rec then true with".split()
        self.assertEqual(len(words), 16)
        for word in words:
            self.assert_fault("r." + word, 3, 2)
            self.assert_fault("{ " + word + " = 1; }", 3, 2)
            self.assert_prints("r." + word + "s", "r." + word + "s")

    def test_with_stands_in_no_form(self):
        self.assert_fault("with", 3, 0)
        self.assert_fault("a with", 3, 2)

    def test_number_and_name_without_a_blank(self):
        self.assert_recipe("12ab", "12 ab", node(11, [], node(1, ["12"]), node(5, ["ab"])))

    def test_literals(self):
        self.assert_recipe('""', '""', node(6, []))
        self.assert_recipe('"a${b}"', '"a${b}"', node(6, [], node(0, ["a"]), B))
        self.assert_sizes('""', 1, 1, 2)
        self.assert_sizes('"a${b}"', 3, 2, 7)


class GrammarExamples(ExampleTest):
    def test_no_dot_behind_a_default(self):
        self.assert_fault("r.a ? s.b", 3, 7)
        self.assert_recipe("r.a ? (s.b)", "r.a ? (s.b)",
                           node(10, ["a"], node(5, ["r"]), node(10, ["b"], node(5, ["s"]))))

    def test_the_fault_met_first_counts(self):
        self.assert_fault("{ a = 1; a", 5, 9)
        self.assert_fault("{ a = 1 ]; a", 3, 8)

    def test_gathering(self):
        self.assert_recipe("a - b + c", "a - b + c", node(30, [], node(31, [], A, B), C))
        self.assert_recipe("(a - b) + c", "a - b + c", node(30, [], node(31, [], A, B), C))
        self.assert_prints("a - (b + c)", "a - (b + c)")
        self.assert_recipe("f x y", "f x y", node(11, [], node(11, [], F, X), Y))
        self.assert_recipe("(f x) y", "f x y", node(11, [], node(11, [], F, X), Y))
        self.assert_prints("f (x y)", "f (x y)")
        self.assert_part("a - b + c", [0], "a - b")
        self.assert_part("f x y", [0], "f x")


class PlainFormExample(ExampleTest):
    WRITTEN = 'let  x=( 1 )+(2*3);y="a${ f (g x)}$"; in{k=x -(-1);l=(f x).a.b?(-1);}.k'
    PRINTED = 'let x = 1 + 2 * 3; y = "a${f (g x)}\\$"; in { k = x - -1; l = (f x).a.b ? (-1); }.k'

    def test_written_apart(self):
        self.assert_prints(self.WRITTEN, self.PRINTED)

    def test_minus_within_the_name(self):
        written = self.WRITTEN.replace("k=x -(-1);", "k=x- -1;")
        self.assert_prints(written, self.PRINTED.replace("k = x - -1;", "k = x- - 1;"))
        self.assert_differ(self.WRITTEN, written)

    def test_its_parts(self):
        for path, printed in [
            ([0], "1 + 2 * 3"), ([0, 1], "2 * 3"), ([1], '"a${f (g x)}\\$"'), ([1, 1], "f (g x)"), ([1, 1, 1], "g x"),
            ([2], "{ k = x - -1; l = (f x).a.b ? (-1); }.k"), ([2, 0], "{ k = x - -1; l = (f x).a.b ? (-1); }"),
            ([2, 0, 0], "x - -1"), ([2, 0, 1], "(f x).a.b ? (-1)"), ([2, 0, 1, 0], "f x"), ([2, 0, 1, 1], "-1"),
        ]:
            self.assert_part(self.WRITTEN, path, printed)

    def test_another_put_in(self):
        self.assert_put(self.WRITTEN, [2, 0, 1, 1], "(1)", self.PRINTED.replace("? (-1)", "? 1"))
        self.assert_put(self.WRITTEN, [0, 1], "2+3", self.PRINTED.replace("1 + 2 * 3", "1 + (2 + 3)"))
        self.assert_put(self.WRITTEN, [1, 1], '"b"', self.PRINTED.replace("f (g x)", '"b"'))

    def test_its_sizes(self):
        # let; the sum; the text; the get, its record, the difference, and the get within.
        nodes = 1 + 5 + (1 + 2 + 5) + (1 + 1 + (2 + 2) + (1 + 3 + 2))
        self.assert_sizes(self.WRITTEN, nodes, 6, len(self.PRINTED))


class ExamplesAtTheEnds(ExampleTest):
    def test_faults(self):
        for written, number, place in [
            ("", 3, 0),
            ('"a', 2, 2),
            ('"\\', 2, 1),
            ('"${', 3, 3),
            ("}", 3, 0),
            ('"${a"', 2, 5),
            ("a == b == c", 3, 7),
            ("fn {a,}: 1", 3, 6),
            ("fn {.., a}: 1", 3, 6),
            ("let in 1", 3, 4),
        ]:
            self.assert_fault(written, number, place)

    def test_readable(self):
        self.assert_recipe("1 2", "1 2", node(11, [], ONE, TWO))
        self.assert_recipe("fn {}: 1", "fn {}: 1", node(16, [], ONE))
        self.assert_recipe("fn {..}: 1", "fn {..}: 1", node(17, [], ONE))
        self.assert_recipe("fn {a, ..}: 1", "fn {a, ..}: 1", node(17, [], node(18, ["a"]), ONE))

    def test_levels(self):
        self.assert_recipe("(" * 39 + "1" + ")" * 39, "1", ONE)
        self.assert_sizes("(" * 39 + "1" + ")" * 39, 1, 1, 1)
        self.assert_fault("(" * 40, 4, 40)
        self.assert_fault("(" * 40 + ")", 4, 40)
        self.assert_prints("[" * 40 + "]" * 40, "[" * 40 + "]" * 40)
        self.assert_sizes("[" * 40 + "]" * 40, 40, 40, 80)

    def test_depth(self):
        self.assert_prints("+".join(["1"] * 40), " + ".join(["1"] * 40))
        self.assert_sizes("+".join(["1"] * 40), 79, 40, 157)
        self.assert_fault("+".join(["1"] * 41), 6, 0)
        self.assert_fault("-" * 2000 + "1", 6, 0)


if __name__ == "__main__":
    unittest.main()
