"""Promise 4: same tells whether two texts have the same tree."""

import unittest

from recipetexts.texts import same
from tests.helper import OPERATORS, REFUSED, RecipeTest, as_bytes, crowded_recipe


class Same(RecipeTest):
    def test_blanks(self):
        self.assert_same("a+b", " a\t+\r\nb ")
        self.assert_same("f(x)", "f ( x )")
        self.assert_same("{a=1;}", "{ a = 1 ; }")
        self.assert_same("12ab", "12 ab")
        self.assert_same('"${a}"', '"${ a }"')

    def test_comments(self):
        self.assert_same("[1, 2]", "# a list\n[1, # one\n2]# \" ${ \x00 \xff")
        self.assert_same('"a${b}"', '"a${b # }"\n}"')

    def test_parentheses(self):
        self.assert_same("a", "((a))")
        self.assert_same("a", "(" * 39 + "a" + ")" * 39)
        self.assert_same("f x y", "((f) x) (y)")
        self.assert_same("a - b + c", "(a - b) + c")
        self.assert_same("a ++ b ++ c", "a ++ (b ++ c)")
        self.assert_same("a // b // c", "a // (b // c)")
        self.assert_same("a + b * c", "a + (b * c)")
        self.assert_same("not a == b", "not (a == b)")
        self.assert_same("-f x", "-(f x)")
        self.assert_same("fn x: if a then b else c", "fn x: (if (a) then (b) else (c))")
        self.assert_same("r.a ? 1", "(r).a ? (1)")

    def test_escapes(self):
        self.assert_same('"\\n"', '"\n"')
        self.assert_same('"\\t"', '"\t"')
        self.assert_same('"\\$"', '"$"')
        self.assert_same('"a\\$b${c}\\n"', '"a$b${c}\n"')

    def test_a_long_print_is_no_refusal(self):
        self.assert_same('"' + "$" * 2046 + '"', '"' + "$" * 2046 + '"')
        self.assert_differ('"' + "$" * 2046 + '"', '"' + "$" * 2045 + 'a"')

    def test_many_nodes(self):
        recipe = crowded_recipe()
        self.assert_same(recipe, recipe)
        self.assert_differ(recipe, recipe[:-1] + "b")
        self.assert_differ(recipe, "2" + recipe[1:])


class OtherKinds(RecipeTest):
    def test_atoms(self):
        atoms = ["true", "false", "none", "a", "1", '""', '"a"', '"1"', "[]", "{}", "rec {}"]
        for first in atoms:
            for second in atoms:
                if first != second:
                    self.assert_differ(first, second)

    def test_operators(self):
        for first in OPERATORS:
            for second in OPERATORS:
                if first != second:
                    self.assert_differ(f"a {first} b", f"a {second} b")

    def test_signs_before(self):
        self.assert_differ("-a", "not a")
        self.assert_differ("-a", "a")
        self.assert_differ("not not a", "a")

    def test_records(self):
        self.assert_differ("{ a = 1; }", "rec { a = 1; }")
        self.assert_differ("{ a = 1; }", "let a = 1; in {}")

    def test_functions(self):
        self.assert_differ("fn {}: 1", "fn {..}: 1")
        self.assert_differ("fn {a}: 1", "fn {a, ..}: 1")
        self.assert_differ("fn {a}: 1", "fn a: 1")
        self.assert_differ("if a then b else c", "must a; b")

    def test_deep_within(self):
        self.assert_differ("-" * 39 + "a", "-" * 38 + "(not a)")
        self.assert_differ("[" * 40 + "]" * 40, "[" * 39 + "{}" + "]" * 39)

    def test_a_piece_and_a_text_in_a_hole(self):
        self.assert_differ('"a"', '"${"a"}"')
        self.assert_differ('""', '"${""}"')
        self.assert_differ('"a${b}"', '"a\\${b}"')


class OtherLabels(RecipeTest):
    def test_names_and_digits(self):
        self.assert_differ("a", "b")
        self.assert_differ("a", "A")
        self.assert_differ("a", "aa")
        self.assert_differ("a-b", "a - b")
        self.assert_differ("1", "2")
        self.assert_differ("1", "11")
        self.assert_differ("10", "100")

    def test_pieces(self):
        self.assert_differ('"a"', '"b"')
        self.assert_differ('"a"', '"a "')
        self.assert_differ('"\\n"', '"\\t"')
        self.assert_differ('"\\n"', '"n"')
        self.assert_differ('"\\\\n"', '"\\n"')
        self.assert_differ('"\x80"', '"\xff"')

    def test_names_of_records_and_lets(self):
        for before, behind in [("{ ", " }"), ("rec { ", " }"), ("let ", " in 0")]:
            self.assert_differ(before + "a = 1;" + behind, before + "b = 1;" + behind)
            self.assert_differ(before + "a = 1; b = 1;" + behind, before + "b = 1; a = 1;" + behind)
            self.assert_differ(before + "a = 1; b = 2;" + behind, before + "b = 2; a = 1;" + behind)

    def test_names_of_functions(self):
        self.assert_differ("fn x: 1", "fn y: 1")
        self.assert_differ("fn {x}: 1", "fn {y}: 1")
        self.assert_differ("fn {x, y}: 1", "fn {y, x}: 1")
        self.assert_differ("fn x: x", "fn y: y")

    def test_names_behind_dots_and_has(self):
        self.assert_differ("r.a", "r.b")
        self.assert_differ("r.a.b", "r.b.a")
        self.assert_differ("r.a", "r.a.a")
        self.assert_differ("r has a", "r has b")


class OtherKids(RecipeTest):
    def test_number(self):
        self.assert_differ("[]", "[1]")
        self.assert_differ("[1]", "[1, 1]")
        self.assert_differ("[[]]", "[]")
        self.assert_differ("{}", "{ a = 1; }")
        self.assert_differ("{ a = 1; }", "{ a = 1; b = 1; }")
        self.assert_differ("r.a", "r.a ? r")
        self.assert_differ("fn {a}: 1", "fn {a ? 1}: 1")
        self.assert_differ("fn {}: 1", "fn {a}: 1")
        self.assert_differ("f x", "f x x")
        self.assert_differ('"${a}"', '"${a}${a}"')

    def test_order(self):
        self.assert_differ("[1, 2]", "[2, 1]")
        self.assert_differ("a b", "b a")
        self.assert_differ("if a then b else c", "if a then c else b")
        self.assert_differ("must a; b", "must b; a")
        self.assert_differ('"a${b}"', '"${b}a"')
        self.assert_differ("r.a ? s", "s.a ? r")
        self.assert_differ("fn {a ? 1, b}: 1", "fn {b, a ? 1}: 1")
        for sign in OPERATORS:
            self.assert_differ(f"a {sign} b", f"b {sign} a")

    def test_what_they_are(self):
        self.assert_differ("{ a = 1; b = 2; }", "{ a = 2; b = 1; }")
        self.assert_differ("fn {a ? 1}: 1", "fn {a ? 2}: 1")
        self.assert_differ("let a = 1; in 1", "let a = 1; in 2")
        self.assert_differ("a has c", "b has c")

    def test_borders(self):
        self.assert_differ("a.b.c", "(a.b).c")
        self.assert_differ("f x y", "f (x y)")
        self.assert_differ("[a, [b]]", "[[a], b]")
        self.assert_differ("[a, b, [c]]", "[a, [b, c]]")
        self.assert_differ("[[a, b]]", "[[a], [b]]")
        self.assert_differ("[a b]", "[a, b]")
        self.assert_differ("ab c", "a bc")
        self.assert_differ("12 3", "1 23")
        self.assert_differ("r.ab.c", "r.a.bc")
        self.assert_differ('"a${b}${c}"', '"a${b c}"')
        self.assert_differ('["a", "b"]', '["ab"]')
        self.assert_differ("fn {a ? fn {b}: 1}: 1", "fn {a ? fn {}: 1, b}: 1")
        self.assert_differ("fn {a ? b, c}: 1", "fn {a, b, c}: 1")
        for sign in ["or", "and", "+", "-", "*"]:
            self.assert_differ(f"a {sign} b {sign} c", f"a {sign} (b {sign} c)")
        for sign in ["//", "++"]:
            self.assert_differ(f"a {sign} b {sign} c", f"(a {sign} b) {sign} c")


class Refusals(RecipeTest):
    def answer(self, first, second):
        return same(as_bytes(first), as_bytes(second))

    def test_each_of_the_first(self):
        for written, refusal in REFUSED:
            self.assertEqual(self.answer(written, "1"), [refusal])

    def test_each_of_the_second(self):
        for written, refusal in REFUSED:
            self.assertEqual(self.answer("1", written), [refusal - 10])

    def test_where_both_cannot_be_read_the_first_counts(self):
        for first, refusal in REFUSED:
            for second, other in REFUSED:
                self.assertEqual(self.answer(first, second), [refusal])

    def test_depth_40_and_41(self):
        deep, deeper = "-" * 39 + "a", "-" * 40 + "a"
        self.assertEqual(self.answer(deep, deep), [1])
        self.assertEqual(self.answer(deeper, deep), [-6])
        self.assertEqual(self.answer(deep, deeper), [-16])
        self.assertEqual(self.answer(deeper, deeper), [-6])

    def test_length_2048_and_2049(self):
        long, longer = "a" + " " * 2047, "a" + " " * 2048
        self.assertEqual(self.answer(long, "a"), [1])
        self.assertEqual(self.answer("a", long), [1])
        self.assertEqual(self.answer(longer, long), [-1])
        self.assertEqual(self.answer(long, longer), [-11])

    def test_empty_texts(self):
        self.assertEqual(self.answer("", "1"), [-3])
        self.assertEqual(self.answer("1", ""), [-13])
        self.assertEqual(self.answer("", ""), [-3])


if __name__ == "__main__":
    unittest.main()
