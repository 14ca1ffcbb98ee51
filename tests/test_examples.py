"""Every example that the document gives."""

import unittest

from tests.helper import RecipeTest


class TokenExamples(RecipeTest):
    def test_names_and_minus(self):
        self.assert_prints("a-b", "a-b")
        self.assert_prints("a - b", "a - b")
        self.assert_prints("a -b", "a - b")
        self.assert_prints("letter", "letter")

    def test_with_stands_in_no_form(self):
        self.assert_fault("with", 3, 0)
        self.assert_fault("a with", 3, 2)

    def test_number_and_name_without_a_blank(self):
        self.assert_prints("12ab", "12 ab")

    def test_literals(self):
        self.assert_prints('""', '""')
        self.assert_prints('"a${b}"', '"a${b}"')


class GrammarExamples(RecipeTest):
    def test_no_dot_behind_a_default(self):
        self.assert_fault("r.a ? s.b", 3, 7)
        self.assert_prints("r.a ? (s.b)", "r.a ? (s.b)")

    def test_the_fault_met_first_counts(self):
        self.assert_fault("{ a = 1; a", 5, 9)
        self.assert_fault("{ a = 1 ]; a", 3, 8)

    def test_gathering(self):
        self.assert_prints("(a - b) + c", "a - b + c")
        self.assert_prints("a - (b + c)", "a - (b + c)")
        self.assert_prints("(f x) y", "f x y")
        self.assert_prints("f (x y)", "f (x y)")


class PlainFormExample(RecipeTest):
    def test_written_apart(self):
        self.assert_prints(
            'let  x=( 1 )+(2*3);y="a${ f (g x)}$"; in{k=x -(-1);l=(f x).a.b?(-1);}.k',
            'let x = 1 + 2 * 3; y = "a${f (g x)}\\$"; in { k = x - -1; l = (f x).a.b ? (-1); }.k',
        )

    def test_minus_within_the_name(self):
        self.assert_prints(
            'let  x=( 1 )+(2*3);y="a${ f (g x)}$"; in{k=x- -1;l=(f x).a.b?(-1);}.k',
            'let x = 1 + 2 * 3; y = "a${f (g x)}\\$"; in { k = x- - 1; l = (f x).a.b ? (-1); }.k',
        )


class ExamplesAtTheEnds(RecipeTest):
    def test_faults(self):
        for written, number, place in [
            ("", 3, 0),
            ('"a', 2, 2),
            ('"\\', 2, 1),
            ('"${', 3, 3),
            ("}", 3, 0),
            ('"${a"', 2, 5),
            ("a == b == c", 3, 7),
            ("fn {a,}: 1", 3, 6),
            ("fn {.., a}: 1", 3, 6),
            ("let in 1", 3, 4),
        ]:
            self.assert_fault(written, number, place)

    def test_readable(self):
        self.assert_prints("1 2", "1 2")
        self.assert_prints("fn {}: 1", "fn {}: 1")
        self.assert_prints("fn {..}: 1", "fn {..}: 1")
        self.assert_prints("fn {a, ..}: 1", "fn {a, ..}: 1")

    def test_levels(self):
        self.assert_prints("(" * 39 + "1" + ")" * 39, "1")
        self.assert_fault("(" * 40, 4, 40)
        self.assert_fault("(" * 40 + ")", 4, 40)
        self.assert_prints("[" * 40 + "]" * 40, "[" * 40 + "]" * 40)

    def test_depth(self):
        self.assert_prints("+".join(["1"] * 40), " + ".join(["1"] * 40))
        self.assert_fault("+".join(["1"] * 41), 6, 0)
        self.assert_fault("-" * 2000 + "1", 6, 0)


if __name__ == "__main__":
    unittest.main()
