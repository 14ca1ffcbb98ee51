"""Promise 2, where, for texts that can be cut but not read."""

import unittest

from recipetexts.texts import plain, where
from tests.helper import RecipeTest, as_bytes

# Each form with a blank between its tokens, and how many of them can stand alone.
FORMS = (
    ("fn x : 1", (4,)),
    ("fn { } : 1", (5,)),
    ("fn { .. } : 1", (6,)),
    ("fn { a } : 1", (6,)),
    ("fn { a , b ? 2 , .. } : 1", (12,)),
    ("let x = 1 ; y = 2 ; in 3", (11,)),
    ("if 1 then 2 else 3", (6,)),
    ("must 1 ; 2", (4,)),
    ("a or b or c", (1, 3, 5)),
    ("a and b and c", (1, 3, 5)),
    ("not not a", (3,)),
    ("a == b", (1, 3)),
    ("a != b", (1, 3)),
    ("a < b", (1, 3)),
    ("a <= b", (1, 3)),
    ("a has b", (1, 3)),
    ("a // b // c", (1, 3, 5)),
    ("a ++ b ++ c", (1, 3, 5)),
    ("a + b - c", (1, 3, 5)),
    ("a * b * c", (1, 3, 5)),
    ("- - a", (3,)),
    ("f x y", (1, 2, 3)),
    ("r . a . b ? c d", (1, 3, 5, 7, 8)),
    ("a", (1,)),
    ("1", (1,)),
    ("true", (1,)),
    ("false", (1,)),
    ("none", (1,)),
    ("( 1 )", (3,)),
    ("[ ]", (2,)),
    ("[ 1 , 2 ]", (5,)),
    ("{ }", (2,)),
    ("{ a = 1 ; b = 2 ; }", (10,)),
    ("rec { }", (3,)),
    ("rec { a = 1 ; }", (7,)),
)

# What stands before and behind an EXPR that stands in another one, and the place of the first
# such EXPR: in some ways others stand ahead of the one that is meant.
WAYS_IN = (
    ("(", ")", 1), ("[", "]", 1), ("[1, ", "]", 1), ('"${', '}"', 3), ('"a${1}${', '}b"', 4),
    ("{ a = ", "; }", 6), ("{ a = 1; b = ", "; }", 6), ("rec { a = ", "; }", 10),
    ("fn x: ", "", 6), ("fn {}: ", "", 7), ("fn {..}: ", "", 9), ("fn {a}: ", "", 8), ("fn {a, ..}: ", "", 12),
    ("let a = ", "; in 1", 8), ("let a = 1; b = ", "; in 1", 8), ("let a = 1; in ", "", 8),
    ("if ", " then 1 else 1", 3), ("if 1 then ", " else 1", 3), ("if 1 then 1 else ", "", 3),
    ("must ", "; 1", 5), ("must 1; ", "", 5), ("r.a ? (", ")", 7), ("a + f (", ")", 7),
)
WAYS_IN_BY_DEFAULT = (("fn {a ? ", "}: 1", 8), ("fn {b, a ? ", ", ..}: 1", 11))


class Syntax(RecipeTest):
    def test_each_form_cut_off_at_each_token(self):
        for form, readable in FORMS:
            tokens = form.split(" ")
            for count in range(len(tokens) + 1):
                written = " ".join(tokens[:count])
                if count in readable:
                    self.assert_reads(written)
                else:
                    self.assert_fault(written, 3, len(written))

    def test_each_form_with_a_wrong_token_at_each_place(self):
        for form, readable in FORMS:
            tokens = form.split(" ")
            for count in range(len(tokens) + 1):
                before = "".join(token + " " for token in tokens[:count])
                for wrong in ["with", "else", ":"]:
                    if tokens[count:count + 1] != [wrong]:
                        self.assert_fault(before + wrong + " 1", 3, len(before))

    def test_literals_cut_off_within_a_hole(self):
        self.assert_fault('"a${', 3, 4)
        self.assert_fault('"a${b', 3, 5)
        self.assert_fault('"a${b +', 3, 7)
        self.assert_fault('"a${b}"+', 3, 8)

    def test_wrong_tokens_within_a_hole(self):
        self.assert_fault('"${}"', 3, 3)
        self.assert_fault('"${a;}"', 3, 4)
        self.assert_fault('"${(a}"', 3, 5)
        self.assert_fault('"${a)}"', 3, 4)
        self.assert_fault('"${[}"', 3, 4)

    def test_forms_that_stand_at_the_beginning_alone(self):
        for form in ["fn x: x", "let a = 1; in a", "if a then b else c", "must a; b"]:
            for before in ["a + ", "not ", "- ", "f ", "a or ", "r.a ? "]:
                self.assert_fault(before + form, 3, len(before))

    def test_not_stands_before_comparings_alone(self):
        self.assert_reads("a and not b or not c")
        for before in ["a == ", "a + ", "- ", "f ", "a // ", "a ++ ", "a * "]:
            self.assert_fault(before + "not b", 3, len(before))

    def test_one_comparing_alone(self):
        for first in ["a == b ", "a != b ", "a < b ", "a <= b ", "a has b "]:
            for second in ["== c", "!= c", "< c", "<= c", "has c"]:
                self.assert_fault(first + second, 3, len(first))
                self.assert_reads(first + "and c " + second)

    def test_behind_has_and_its_name(self):
        for behind in ["c", "1", ". c", "? c", "+ c", "- c", "* c", "// c", "++ c", "{}"]:
            self.assert_fault("a has b " + behind, 3, 8)
        self.assert_reads("a has b or c")

    def test_names_are_asked_for(self):
        for written, place in [
            ("a has 1", 6), ("a has (b)", 6), ("r.1", 2), ("r.(a)", 2), ('r."a"', 2), ("r.a.if", 4),
            ("fn 1: 1", 3), ("fn (a): 1", 3), ("fn {1}: 1", 4), ("let 1 = 1; in 1", 4), ("{ 1 = 1; }", 2),
            ('{ "a" = 1; }', 2), ("{ a.b = 1; }", 3),
        ]:
            self.assert_fault(written, 3, place)

    def test_commas_and_semicolons(self):
        for written, place in [
            ("[1,]", 3), ("[,1]", 1), ("[1 2, 3;]", 7), ("()", 1), ("(1, 2)", 2), ("{ a = 1 }", 8),
            ("{ a = 1;; }", 8), ("{ ; }", 2), ("let a = 1 in a", 10), ("must a b", 8), ("fn {a b}: 1", 6),
            ("fn {,}: 1", 4), ("fn {a;}: 1", 5), ("fn {.. ..}: 1", 7), ("fn {a ..}: 1", 6), ("rec a", 4),
        ]:
            self.assert_fault(written, 3, place)

    def test_a_default_asks_for_a_dot(self):
        self.assert_fault("a ? b", 3, 2)
        self.assert_fault("(r.a) ? b", 3, 6)
        self.assert_fault("r.a ? b ? c", 3, 8)
        self.assert_fault("r.a ? -1", 3, 6)

    def test_behind_the_whole(self):
        for behind in [")", "]", "}", ";", ",", ":", "=", "then", "in", "with", "..", "?"]:
            self.assert_fault("1 " + behind, 3, 2)


class Levels(RecipeTest):
    def test_level_40_can_be_read(self):
        for before, behind, first in WAYS_IN:
            self.assert_reads("(" * 38 + before + "1" + behind + ")" * 38)
            self.assert_reads(before * 13 + "(" * 26 + "1" + ")" * 26 + behind * 13)

    def test_level_40_by_one_way_alone(self):
        for before, behind in [("(", ")"), ("[", "]"), ('"${', '}"'), ("{ a = ", "; }"), ("fn x: ", "")]:
            self.assert_reads(before * 39 + "1" + behind * 39)

    def test_level_40_by_defaults_makes_a_tree_too_deep(self):
        for before, behind, first in WAYS_IN_BY_DEFAULT:
            self.assert_reads("(" * 38 + before + "1" + behind + ")" * 38)
            self.assert_reads(before * 19 + "1" + behind * 19)
            self.assert_fault(before * 39 + "1" + behind * 39, 6, 0)

    def test_level_41_is_too_deep_whatever_stands_there(self):
        for before, behind, first in WAYS_IN + WAYS_IN_BY_DEFAULT:
            for there in ["1", "", "with", "(", ")", ";", "fn"]:
                self.assert_fault("(" * 39 + before[:first] + there, 4, 39 + first)

    def test_level_41_behind_each_way_in(self):
        for before, behind, first in WAYS_IN + WAYS_IN_BY_DEFAULT:
            self.assert_fault("(" * 38 + before + "(1)" + behind + ")" * 38, 4, 38 + len(before) + 1)

    def test_level_41_by_each_way_again_and_again(self):
        for before, behind, first in WAYS_IN + WAYS_IN_BY_DEFAULT:
            self.assert_fault(before * 40 + "1" + behind * 40, 4, len(before) * 39 + first)

    def test_empty_brackets_at_level_40(self):
        for written in ["[]", "{}", "rec {}", '""', '"a"']:
            self.assert_reads("(" * 39 + written + ")" * 39)
        self.assert_fault("[" * 40 + "}", 4, 40)

    def test_levels_are_left_again(self):
        self.assert_reads("[" + ", ".join(["(1)"] * 60) + "]")
        self.assert_reads("(" * 39 + "1" + ")" * 39 + "+" + "(" * 39 + "1" + ")" * 39)
        self.assert_fault("(" * 39 + "1" + ")" * 39 + "+" + "(" * 40 + "1", 4, 120)

    def test_the_fault_met_first_counts(self):
        self.assert_fault(")" + "(" * 41, 3, 0)
        self.assert_fault("(" * 40 + "{ a = 1; a", 4, 40)
        self.assert_fault("{ a = 1; a = " + "(" * 40, 5, 9)


class NamesTwice(RecipeTest):
    def test_each_form(self):
        for written, place in [
            ("{ a = 1; a = 2; }", 9),
            ("{ a = 1; b = 2; a = 3; }", 16),
            ("rec { a = 1; a = 2; }", 13),
            ("let a = 1; a = 2; in a", 11),
            ("fn {a, a}: 1", 7),
            ("fn {a ? 1, b, a ? 2, ..}: 1", 14),
        ]:
            self.assert_fault(written, 5, place)

    def test_found_before_what_stands_behind(self):
        for written, place in [
            ("{ a = 1; a", 9), ("{ a = 1; a with", 9), ("rec { a = 1; a", 13),
            ("let a = 1; a in", 11), ("fn {a, a", 7), ("fn {a, a with", 7),
        ]:
            self.assert_fault(written, 5, place)

    def test_within_a_nested_one_it_is_no_fault(self):
        for written in [
            "{ a = { a = 1; }; }", "{ a = rec { a = 1; }; b = { a = 1; b = 2; }; }",
            "rec { a = rec { a = 1; }; }", "let a = let a = 1; in a; in a", "let a = 1; in let a = 2; in a",
            "let a = { a = 1; }; in fn {a}: a", "fn {a}: fn {a}: a", "fn {a ? fn {a}: a}: a",
            "fn {a ? { a = 1; }, b ? { a = 1; }}: a", "fn a: fn a: a", "[{ a = 1; }, { a = 1; }]",
        ]:
            self.assert_reads(written)

    def test_behind_a_nested_one_it_is_found(self):
        self.assert_fault("{ a = { b = 1; }; a = 2; }", 5, 18)
        self.assert_fault("fn {a ? fn {b}: b, a}: a", 5, 19)
        self.assert_fault("let a = let b = 1; in b; a = 2; in a", 5, 25)
        self.assert_fault("{ a = { b = 1; b = 2; }; }", 5, 15)
        self.assert_reads("{ a = { b = 1; }; b = 2; }")

    def test_names_that_are_not_bound_there(self):
        self.assert_reads("r.a.a")
        self.assert_reads("{ a = a; b = a a; }")
        self.assert_reads("{ a = 1; A = 2; a- = 3; aa = 4; }")


class Depth(RecipeTest):
    def assert_depth_40_and_41(self, shallow, deep):
        self.assert_reads(shallow)
        self.assert_fault(deep, 6, 0)

    def test_operators(self):
        for sign in ["or", "and", "//", "++", "+", "-", "*"]:
            between = " " + sign + " "
            self.assert_depth_40_and_41(between.join(["a"] * 40), between.join(["a"] * 41))

    def test_mixed_operators(self):
        self.assert_depth_40_and_41("a == " + "b + " * 38 + "b", "a == " + "b + " * 39 + "b")
        self.assert_depth_40_and_41("b + " * 38 + "b has c", "b + " * 39 + "b has c")
        self.assert_depth_40_and_41("b.c ++ " * 38 + "b.c", "b.c ++ " * 39 + "b.c")

    def test_applyings(self):
        self.assert_depth_40_and_41("a " * 40, "a " * 41)

    def test_minus_and_not(self):
        self.assert_depth_40_and_41("-" * 39 + "a", "-" * 40 + "a")
        self.assert_depth_40_and_41("not " * 39 + "a", "not " * 40 + "a")

    def test_nested_literals(self):
        self.assert_depth_40_and_41('"${' * 38 + '"a"' + '}"' * 38, '"${' * 39 + '"a"' + '}"' * 39)
        self.assert_depth_40_and_41('"${' * 39 + '1' + '}"' * 39, '"${' * 39 + '-1' + '}"' * 39)

    def test_params_count(self):
        self.assert_depth_40_and_41("fn {}: " * 38 + "fn {a}: 1", "fn {}: " * 38 + "fn {a ? 1}: 1")
        self.assert_depth_40_and_41("fn {a ? " + "-" * 37 + "1}: 1", "fn {a ? " + "-" * 38 + "1}: 1")

    def test_dots_and_elements_side_by_side_make_no_depth(self):
        self.assert_reads("r" + ".a" * 1000)
        self.assert_reads("[" + "1," * 1000 + "1]")

    def test_a_fault_in_reading_comes_first(self):
        self.assert_fault("1 " * 41 + ")", 3, 82)
        self.assert_fault("-" * 50 + "{ a = 1; a", 5, 59)
        self.assert_fault("-" * 50 + "(" * 41, 4, 90)


class LongInputs(RecipeTest):
    def test_deep_without_a_level_more(self):
        for written in [
            "-" * 2000 + "1",
            "-" * 2047 + "1",
            "not " * 500 + "a",
            "not " * 511 + "a",
            " ".join(["a"] * 1000),
            "++".join(["a"] * 682),
            "//".join(["a"] * 682),
            " or ".join(["a"] * 409),
            " and ".join(["a"] * 341),
            "+".join(["a"] * 1000),
            "*".join(["a"] * 1000),
            " -".join(["a"] * 682),
            "1" * 30 + " 1" * 1000,
        ]:
            self.assert_fault(written, 6, 0)

    def test_a_thousand_names_with_longer_signs_between(self):
        for sign in ["++", "//", " or ", " and ", " == "]:
            self.assert_fault(sign.join(["a"] * 1000), 1, 0)

    def test_cut_off_when_deep(self):
        self.assert_fault("-" * 2048, 3, 2048)
        self.assert_fault("not " * 512, 3, 2048)
        self.assert_fault("a++" * 682, 3, 2046)
        self.assert_fault("a//" * 682 + "a)", 3, 2047)
        self.assert_fault("(" * 2048, 4, 40)
        self.assert_fault("[" * 2048, 4, 40)
        self.assert_fault('"${' * 682, 4, 120)
        self.assert_fault("{" * 2048, 3, 1)
        self.assert_fault("}" * 2048, 3, 0)

    def test_long_and_flat(self):
        names = [first + second for first in "ABCDEFGHIJKLMNOP" for second in "abcdefghijklmnopqrs"]
        binds = "".join(name + "=1;" for name in names)
        for written in [
            "{" + binds + "}", "rec {" + binds + "}", "let " + binds + "in 1", "fn {" + ",".join(names) + "}: 1",
            '"' + "${a}" * 511 + '"', '"' + "a" * 2046 + '"', "#" * 2000 + "\n1", " " * 2047 + "1",
        ]:
            self.assert_reads(written)
        self.assertEqual(plain(as_bytes("[" + "1," * 1000 + "1]")), [-8])
        self.assertEqual(where(as_bytes("[" + "1," * 1000 + "1]")), [0, 0])


if __name__ == "__main__":
    unittest.main()
