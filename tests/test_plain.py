"""Promise 1: plain prints the text's tree in the one plain form."""

import unittest

from recipetexts.texts import plain, where
from tests.helper import OPERATORS, PLAIN_PLACES, RANKED, RANKED_PLACES, REFUSED, RecipeTest, as_bytes


class EachKind(RecipeTest):
    def test_atoms(self):
        self.assert_prints(" 120 ", "120")
        self.assert_prints("0", "0")
        self.assert_prints("( true )", "true")
        self.assert_prints("(false)", "false")
        self.assert_prints("((none))", "none")
        self.assert_prints("a_b-9", "a_b-9")

    def test_pieces(self):
        self.assert_prints('"\\"\\\\\\n\\t\\$"', '"\\"\\\\\\n\\t\\$"')
        self.assert_prints('"\n\t$ $a"', '"\\n\\t\\$ \\$a"')
        self.assert_prints('"\\${a}"', '"\\${a}"')
        self.assert_prints('"$${a}$"', '"\\$${a}\\$"')
        self.assert_prints('"# {} \' \x7f\x80\xff"', '"# {} \' \x7f\x80\xff"')

    def test_texts(self):
        self.assert_prints('""', '""')
        self.assert_prints('"${ a }"', '"${a}"')
        self.assert_prints('"${a}${b}"', '"${a}${b}"')
        self.assert_prints('"x${ "y${ "z" }" }w"', '"x${"y${"z"}"}w"')
        self.assert_prints('"${{a=1;}.a}"', '"${{ a = 1; }.a}"')
        self.assert_prints('"${a # } and "\n}b"', '"${a}b"')

    def test_lists_and_records(self):
        self.assert_prints("[ ]", "[]")
        self.assert_prints("[1]", "[1]")
        self.assert_prints("[1,2,[3]]", "[1, 2, [3]]")
        self.assert_prints("{ }", "{}")
        self.assert_prints("{a=1;}", "{ a = 1; }")
        self.assert_prints("{b=1;a={};}", "{ b = 1; a = {}; }")
        self.assert_prints("rec{ }", "rec {}")
        self.assert_prints("rec{a=b;b=a;}", "rec { a = b; b = a; }")

    def test_get(self):
        self.assert_prints("r . a", "r.a")
        self.assert_prints("r.a .b. c", "r.a.b.c")
        self.assert_prints("r.a?1", "r.a ? 1")
        self.assert_prints("1.a", "1.a")
        self.assert_prints("{a=1;}.a ? [2] 3", "{ a = 1; }.a ? [2] 3")
        self.assert_prints("(r.a).b", "(r.a).b")
        self.assert_prints("(r.a ? 1).b", "(r.a ? 1).b")

    def test_applying_and_signs_before(self):
        self.assert_prints("f  x(y)[z]", "f x y [z]")
        self.assert_prints("f x.a y", "f x.a y")
        self.assert_prints("- - a", "--a")
        self.assert_prints("-f x", "-f x")
        self.assert_prints("not  not a", "not not a")
        self.assert_prints("not a == b", "not a == b")
        self.assert_prints("a has b", "a has b")

    def test_functions(self):
        self.assert_prints("fn x:x", "fn x: x")
        self.assert_prints("fn x: fn y: x", "fn x: fn y: x")
        self.assert_prints("fn{ }:1", "fn {}: 1")
        self.assert_prints("fn{a}:1", "fn {a}: 1")
        self.assert_prints("fn{a,b?1,c?fn x:x}:1", "fn {a, b ? 1, c ? fn x: x}: 1")
        self.assert_prints("fn{ .. }:1", "fn {..}: 1")
        self.assert_prints("fn{a?r.b?2,..}:1", "fn {a ? r.b ? 2, ..}: 1")

    def test_let_if_must(self):
        self.assert_prints("let a=1;in a", "let a = 1; in a")
        self.assert_prints("let a=1;b=2;in a", "let a = 1; b = 2; in a")
        self.assert_prints("if(a)then(b)else(c)", "if a then b else c")
        self.assert_prints("must(a);(b)", "must a; b")

    def test_two_operands(self):
        for sign in OPERATORS:
            self.assert_prints("(a)" + sign + "(b)", "a " + sign + " b")


class Parentheses(RecipeTest):
    def test_each_ranked_place(self):
        for place, rank, path in RANKED_PLACES:
            for kid_rank, kid in enumerate(RANKED):
                inner = kid if kid_rank >= rank else "(" + kid + ")"
                self.assert_prints(place.replace("@", "( (" + kid + ") )"), place.replace("@", inner))

    def test_each_place_without_a_rank(self):
        for place, paths in PLAIN_PLACES:
            for kid in RANKED:
                self.assert_prints(place.replace("@", "(" + kid + ")"), place.replace("@", kid))

    def test_every_kind_of_rank_0(self):
        for kid in ["fn x: x", "fn {}: x", "fn {..}: x", "let a = 1; in a", "if a then b else c", "must a; b"]:
            self.assert_prints("(" + kid + ") or z", "(" + kid + ") or z")

    def test_every_kind_of_rank_4(self):
        for kid in ["a == b", "a != b", "a < b", "a <= b", "a has b"]:
            self.assert_prints("not (" + kid + ")", "not " + kid)
            self.assert_prints("(" + kid + ") // z", "(" + kid + ") // z")

    def test_every_kind_of_rank_12(self):
        for kid in ["a", "1", "true", "false", "none", '""', "[]", "{}", "rec {}"]:
            self.assert_prints("(" + kid + ").k ? (" + kid + ")", kid + ".k ? " + kid)
            self.assert_prints("f (" + kid + ") (" + kid + ")", "f " + kid + " " + kid)

    def test_gathering(self):
        for sign in ["or", "and", "+", "-", "*"]:
            self.assert_prints(f"(a {sign} b) {sign} c", f"a {sign} b {sign} c")
            self.assert_prints(f"a {sign} (b {sign} c)", f"a {sign} (b {sign} c)")
        for sign in ["//", "++"]:
            self.assert_prints(f"a {sign} (b {sign} c)", f"a {sign} b {sign} c")
            self.assert_prints(f"(a {sign} b) {sign} c", f"(a {sign} b) {sign} c")
        self.assert_prints("(a + b) - c", "a + b - c")
        self.assert_prints("(a - b) + c", "a - b + c")


class OneForm(RecipeTest):
    def test_blanks_comments_and_parentheses_make_no_difference(self):
        printed = "let a = [1, f x]; in { b = a.c ? 2; }"
        for written in [
            printed,
            "let a=[1,f x];in{b=a.c?2;}",
            "\t(let\r\na = [ (1) , (f) (x) ] ; # a comment\nin ({ b = (a.c ? 2) ; }))#",
            "#first\n##\n" + printed + " # \x00\xff \" ${",
        ]:
            self.assert_prints(written, printed)

    def test_other_trees_print_otherwise(self):
        self.assert_prints("a-b", "a-b")
        self.assert_prints("a - b", "a - b")
        self.assert_prints('"a"', '"a"')
        self.assert_prints('"${"a"}"', '"${"a"}"')


class Refusals(RecipeTest):
    def test_printed_form_of_2048_and_2049_bytes(self):
        longest = '"' + "$" * 1023 + '"'
        self.assertEqual(plain(as_bytes(longest)), [0] + as_bytes('"' + "\\$" * 1023 + '"'))
        too_long = '"' + "$" * 1023 + 'a"'
        self.assertEqual(plain(as_bytes(too_long)), [-8])
        self.assertEqual(where(as_bytes(too_long)), [0, 0])

    def test_printed_list_around_2048_bytes(self):
        longest = "[" + ",".join(["1"] * 682) + "]"
        self.assert_prints(longest, longest.replace(",", ", "))
        self.assert_prints(longest.replace("[1", "[111"), longest.replace("[1", "[111").replace(",", ", "))
        self.assertEqual(plain(as_bytes(longest.replace("[1", "[1111"))), [-8])

    def test_text_of_2048_bytes_printed_as_it_is(self):
        self.assert_prints('"' + "a" * 2046 + '"', '"' + "a" * 2046 + '"')

    def test_each_refusal_of_reading(self):
        for written, refusal in REFUSED:
            self.assertEqual(plain(as_bytes(written)), [refusal])


if __name__ == "__main__":
    unittest.main()
