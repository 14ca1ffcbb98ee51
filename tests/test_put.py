"""Promise 6: put replaces the tree to which the path leads, and prints the whole."""

import unittest

from recipetexts.texts import part, plain, put
from tests.helper import NOWHERE, OPERATORS, PLAIN_PLACES, RANKED, RANKED_PLACES, REFUSED, RecipeTest, as_bytes, fill


class PutTest(RecipeTest):
    def answer(self, written, path, other):
        return put(as_bytes(written), path, as_bytes(other))

    def assert_refused(self, written, path, other, refusal):
        self.assertEqual(self.answer(written, path, other), [refusal], (written, path, other))


class EachPlace(PutTest):
    def test_each_kid_of_each_kind(self):
        for place, paths in PLAIN_PLACES:
            kids = ["kid" + str(k) for k in range(len(paths))]
            for k, path in enumerate(paths):
                for other in RANKED:
                    new = kids[:k] + [other] + kids[k + 1:]
                    self.assert_put(fill(place, kids), path, "( " + other + " )", fill(place, new))
                    self.assert_put(fill(place, new), path, "kid" + str(k), fill(place, kids))

    def test_parentheses_come_and_go(self):
        for place, rank, path in RANKED_PLACES:
            for kid_rank, kid in enumerate(RANKED):
                inner = kid if kid_rank >= rank else "(" + kid + ")"
                self.assert_put(fill(place, ["q"]), path, kid, fill(place, [inner]))
                self.assert_put(fill(place, ["(" + kid + ")"]), path, "q", fill(place, ["q"]))

    def test_both_of_two_kids(self):
        for sign in OPERATORS:
            self.assert_put(f"a {sign} b", [0], "[]", f"[] {sign} b")
            self.assert_put(f"a {sign} b", [1], "[]", f"a {sign} []")
        self.assert_put("f x", [0], "[]", "[] x")
        self.assert_put("f x", [1], "[]", "f []")
        self.assert_put("r.k ? 1", [0], "[]", "[].k ? 1")
        self.assert_put("r.k ? 1", [1], "[]", "r.k ? []")


class Written(PutTest):
    """Recipes and others written out."""

    def test_the_empty_path_gives_the_other_alone(self):
        self.assert_put("a", [], " ( b+c )*d ", "(b + c) * d")
        self.assert_put("-" * 39 + "a", [], "1", "1")
        for place, paths in PLAIN_PLACES:
            self.assert_put(fill(place, ["a"] * len(paths)), [], "f(x)", "f x")

    def test_parentheses(self):
        self.assert_put("a * b", [0], "c + d", "(c + d) * b")
        self.assert_put("a * b", [1], "c * d", "a * (c * d)")
        self.assert_put("(a + b) * c", [0], "d", "d * c")
        self.assert_put("(a + b) * c", [0], "d * e", "d * e * c")
        self.assert_put("(a + b) * c", [0], "(d - e)", "(d - e) * c")
        self.assert_put("-a", [0], "-b", "--b")
        self.assert_put("f x", [1], "g y", "f (g y)")
        self.assert_put("f x", [0], "g y", "g y x")
        self.assert_put("f (g y)", [1], "z", "f z")
        self.assert_put("r.a ? 1", [1], "s.b", "r.a ? (s.b)")
        self.assert_put("r.a", [0], "s.b ? 2", "(s.b ? 2).a")
        self.assert_put("a ++ b", [1], "c ++ d", "a ++ c ++ d")
        self.assert_put("a ++ b", [0], "c ++ d", "(c ++ d) ++ b")

    def test_several_steps(self):
        written = 'let x = [1, { y = f (g "a${h.k ? 2}"); }]; in fn {z ? x.y, ..}: must z; z'
        for path, other, printed in [
            ([0, 0], "a or b", 'let x = [a or b, { y = f (g "a${h.k ? 2}"); }]; in fn {z ? x.y, ..}: must z; z'),
            ([0, 1, 0], "[]", "let x = [1, { y = []; }]; in fn {z ? x.y, ..}: must z; z"),
            ([0, 1, 0, 1], "q", "let x = [1, { y = f q; }]; in fn {z ? x.y, ..}: must z; z"),
            ([0, 1, 0, 1, 1, 1], "-p", 'let x = [1, { y = f (g "a${-p}"); }]; in fn {z ? x.y, ..}: must z; z'),
            ([0, 1, 0, 1, 1, 1, 1], "-p",
             'let x = [1, { y = f (g "a${h.k ? (-p)}"); }]; in fn {z ? x.y, ..}: must z; z'),
            ([1, 0, 0, 0], "p q", 'let x = [1, { y = f (g "a${h.k ? 2}"); }]; in fn {z ? (p q).y, ..}: must z; z'),
            ([1, 1, 1], "{}", 'let x = [1, { y = f (g "a${h.k ? 2}"); }]; in fn {z ? x.y, ..}: must z; {}'),
        ]:
            self.assert_put(written, path, other, printed)

    def test_blanks_comments_and_parentheses_are_gone(self):
        self.assert_put("[ (a),b ]# x", [1], "#y\n( c # z\n)", "[a, c]")

    def test_binds(self):
        self.assert_put("{ a = 1; b = 2; }", [1], "fn x: x", "{ a = 1; b = fn x: x; }")
        self.assert_put("rec { a = b; b = 2; }", [0], "{ a = a; }", "rec { a = { a = a; }; b = 2; }")
        self.assert_put("let a = 1; b = 2; in a", [0], "let a = 3; in a", "let a = let a = 3; in a; b = 2; in a")
        self.assert_put("let a = 1; b = 2; in a", [2], "let a = 3; in a", "let a = 1; b = 2; in let a = 3; in a")

    def test_params(self):
        self.assert_put("fn {a, b ? 1}: c", [1, 0], "fn {a ? 2}: a", "fn {a, b ? fn {a ? 2}: a}: c")
        self.assert_put("fn {a, b ? 1, ..}: c", [1, 0], "r.x ? 2", "fn {a, b ? r.x ? 2, ..}: c")
        self.assert_put("fn {a, b ? 1}: c", [2], "fn {..}: d", "fn {a, b ? 1}: fn {..}: d")
        self.assert_put("fn {..}: c", [0], "fn x: d", "fn {..}: fn x: d")

    def test_the_same_names_as_around(self):
        self.assert_put("{ a = 1; }", [0], "{ a = 2; }", "{ a = { a = 2; }; }")
        self.assert_put("fn a: 1", [0], "fn a: a", "fn a: fn a: a")

    def test_what_is_put_in_the_place_of_its_like(self):
        self.assert_put("[a, b]", [0], "a", "[a, b]")
        self.assert_put("f x y", [0], "f x", "f x y")

    def test_only_one_of_two_alike_is_replaced(self):
        self.assert_put("[a, a, a]", [1], "b", "[a, b, a]")
        self.assert_put("[[a], [a]]", [1, 0], "b", "[[a], [b]]")
        self.assert_put("a + a + a", [0, 1], "b", "a + b + a")

    def test_a_recipe_put_into_itself(self):
        text = as_bytes("[a, b]")
        self.assertEqual(put(text, [1], text), [0] + as_bytes("[a, [a, b]]"))
        self.assertEqual(text, as_bytes("[a, b]"))

    def test_among_many_kids(self):
        numbers = [str(k) for k in range(400)]
        for k in [0, 1, 200, 399]:
            new = numbers[:k] + ["x"] + numbers[k + 1:]
            self.assert_put("[" + ",".join(numbers) + "]", [k], "x", "[" + ", ".join(new) + "]")


class Holes(PutTest):
    def test_a_hole_stays_a_hole(self):
        self.assert_put('"a${b}c"', [1], "d", '"a${d}c"')
        self.assert_put('"a${b}"', [1], "d + e", '"a${d + e}"')
        self.assert_put('"${b}c"', [0], "fn x: x", '"${fn x: x}c"')
        self.assert_put('"${a}${b}"', [1], "{}", '"${a}${{}}"')

    def test_a_text_in_a_hole(self):
        self.assert_put('"a${b}c"', [1], '"d"', '"a${"d"}c"')
        self.assert_put('"a${b}"', [1], '""', '"a${""}"')
        self.assert_put('"${b}"', [0], '"d"', '"${"d"}"')
        self.assert_put('"a${b}c"', [1], '"${d}"', '"a${"${d}"}c"')
        self.assert_put('"a${b}c"', [1], '"d${e}\\$\n"', '"a${"d${e}\\$\\n"}c"')
        self.assert_put('"a${"b"}c"', [1], '"d"', '"a${"d"}c"')

    def test_within_the_text_in_a_hole(self):
        self.assert_put('"a${"b${c}"}"', [1, 1], '"d"', '"a${"b${"d"}"}"')


class Nowhere(PutTest):
    def test_as_for_part(self):
        for written in ["a", "[a, b, c]", '"a${b}c"', "fn {a, b ? 1, ..}: c", "-" * 39 + "a", "[[a, [b, c]]]"]:
            for path in NOWHERE:
                self.assertEqual(part(as_bytes(written), path), [-7])
                self.assert_refused(written, path, "1", -7)

    def test_at_a_later_step(self):
        for number in [-1, -2, 2, 3, 10 ** 18, -10 ** 18]:
            self.assert_refused("[a, [b, c]]", [number], "1", -7)
            self.assert_refused("[a, [b, c]]", [1, number], "1", -7)
            self.assert_refused("[a, [b, c]]", [1, 0, number], "1", -7)
            self.assert_refused("[a, [b, c]]", [number, 0], "1", -7)

    def test_pieces(self):
        for path in [[0], [2], [3], [0, 0], [1, 0]]:
            self.assert_refused('"a${b}c"', path, '"d"', -7)
        self.assert_refused('"a"', [0], '"d"', -7)
        self.assert_refused('""', [0], '"d"', -7)

    def test_params(self):
        for dots in ["", ", .."]:
            for path in [[0], [1], [0, 0], [1, 1], [3]]:
                self.assert_refused("fn {a, b ? 1" + dots + "}: c", path, "d", -7)

    def test_nothing_is_put_where_no_kid_is(self):
        for written in ["[]", "{}", "rec {}", '""', "a", "1", "true", "r.a"]:
            self.assert_refused(written, [1], "b", -7)
        self.assert_refused("[a]", [1], "b", -7)


class Depth(PutTest):
    def test_depth_40_and_41(self):
        for steps in range(40):
            deepest, deeper = "-" * (39 - steps) + "b", "not " * (40 - steps) + "b"
            self.assert_put("-" * 39 + "a", [0] * steps, deepest, "-" * 39 + "b")
            if steps > 0:
                self.assert_refused("-" * 39 + "a", [0] * steps, deeper, -6)

    def test_pieces_and_params_count(self):
        self.assert_put("-" * 38 + "a", [0] * 38, '""', "-" * 38 + '""')
        self.assert_put("-" * 38 + "a", [0] * 38, '"b"', "-" * 38 + '"b"')
        self.assert_refused("-" * 39 + "a", [0] * 39, '"b"', -6)
        self.assert_put("fn {a ? 1}: 2", [0, 0], "-" * 37 + "b", "fn {a ? " + "-" * 37 + "b}: 2")
        self.assert_refused("fn {a ? 1}: 2", [0, 0], "-" * 38 + "b", -6)
        self.assert_put("fn {a ? 1}: 2", [1], "-" * 38 + "b", "fn {a ? 1}: " + "-" * 38 + "b")
        self.assert_refused("fn {a ? 1}: 2", [1], "-" * 39 + "b", -6)

    def test_what_was_replaced_does_not_count(self):
        deep = "-" * 38 + "a"
        self.assert_put("[" + deep + ", b]", [0], "c", "[c, b]")
        self.assert_put("[" + deep + ", b]", [0], "not " * 38 + "c", "[" + "not " * 38 + "c, b]")
        self.assert_refused("[" + deep + ", b]", [0], "not " * 39 + "c", -6)

    def test_beside_a_deep_kid(self):
        deep = "-" * 38 + "a"
        self.assert_put("[" + deep + ", b]", [1], deep, "[" + deep + ", " + deep + "]")
        self.assert_refused("[" + deep + ", b]", [1], "-" + deep, -6)

    def test_a_deep_other_in_a_flat_text(self):
        self.assert_put("a + b", [1], "+".join(["1"] * 39), "a + (" + " + ".join(["1"] * 39) + ")")
        self.assert_put("a + b", [0], "+".join(["1"] * 39), " + ".join(["1"] * 39) + " + b")
        self.assert_refused("a + b", [0], "+".join(["1"] * 40), -6)
        self.assert_refused("a + b", [1], "+".join(["1"] * 40), -6)

    def test_levels_of_the_new_recipe(self):
        self.assert_put("[" * 20 + "]" * 20, [0] * 19, "[" * 21 + "]" * 21, "[" * 40 + "]" * 40)
        self.assert_refused("[" * 20 + "]" * 20, [0] * 19, "[" * 22 + "]" * 22, -6)
        self.assert_put("(" * 38 + "[a]" + ")" * 38, [0], "(" * 39 + "b" + ")" * 39, "[b]")


class Length(PutTest):
    def test_printed_form_of_2048_and_2049_bytes(self):
        written = '["' + "a" * 2030 + '", b]'
        self.assertEqual(len(written.replace("b", "c" * 12)), 2048)
        self.assert_put(written, [1], "c" * 12, written.replace("b", "c" * 12))
        self.assert_refused(written, [1], "c" * 13, -8)

    def test_two_texts_that_are_too_long_together(self):
        written, other = '"' + "a" * 1020 + '" + c', '"' + "b" * 1021 + '"'
        self.assertEqual(len(written.replace("c", other)), 2048)
        self.assert_put(written, [1], other, written.replace("c", other))
        self.assert_refused(written, [1], '"b' + other[1:], -8)

    def test_the_parentheses_count(self):
        written = '"' + "a" * 2036 + '" * b'
        self.assertEqual(len(written.replace("b", "(c + d)")), 2048)
        self.assert_put(written, [1], "c+d", written.replace("b", "(c + d)"))
        self.assert_refused(written, [1], "c+dd", -8)
        self.assert_put(written, [1], "c.d-e-f", written.replace("b", "c.d-e-f"))

    def test_a_long_text_becomes_short(self):
        written = '["' + "$" * 1500 + '", b]'
        self.assertEqual(plain(as_bytes(written)), [-8])
        self.assert_refused(written, [1], "c", -8)
        self.assert_put(written, [0], "c", "[c, b]")
        self.assert_put(written, [], "c", "c")

    def test_an_other_that_prints_too_long(self):
        longest, longer = '"' + "$" * 1023 + '"', '"' + "$" * 1023 + 'a"'
        self.assert_put("a", [], longest, longest.replace("$", "\\$"))
        self.assert_refused("a", [], longer, -8)
        self.assert_refused("-a", [0], longest, -8)


class Order(PutTest):
    """Where two refusals could be told, the one that the document has first is."""

    def test_the_text_comes_first(self):
        for written, refusal in REFUSED:
            for path in [[], [0], *NOWHERE]:
                self.assert_refused(written, path, "1", refusal)
                for other, other_refusal in REFUSED:
                    self.assert_refused(written, path, other, refusal)

    def test_then_the_other(self):
        for other, refusal in REFUSED:
            for path in [[], [0], *NOWHERE]:
                self.assert_refused("[1]", path, other, refusal - 10)
                self.assert_refused('["' + "$" * 2000 + '"]', path, other, refusal - 10)
                self.assert_refused("-" * 39 + "a", path, other, refusal - 10)

    def test_then_the_path(self):
        deep, long = "-" * 39 + "a", '"' + "$" * 2000 + '"'
        for written in [deep, long, "[1]"]:
            for other in [deep, long, "1"]:
                for path in NOWHERE:
                    self.assert_refused(written, path, other, -7)

    def test_then_the_depth(self):
        long = '"' + "$" * 2000 + '"'
        self.assert_refused("-" * 39 + "a", [0] * 39, long, -6)
        self.assert_refused("-" * 38 + "a", [0] * 38, long, -8)
        self.assert_refused("[" + long + ", 1]", [1], "-" * 39 + "a", -6)
        self.assert_refused("[" + long + ", 1]", [1], "-" * 38 + "a", -8)

    def test_the_others_own_depth_is_no_6(self):
        self.assert_refused("a", [], "-" * 40 + "a", -16)
        self.assert_refused("[a]", [0], "-" * 40 + "a", -16)
        self.assert_refused("-" * 40 + "a", [], "a", -6)

    def test_empty_texts(self):
        self.assert_refused("", [], "", -3)
        self.assert_refused("", [0], "1", -3)
        self.assert_refused("1", [], "", -13)
        self.assert_refused("1", [0], "", -13)

    def test_length_2048_and_2049(self):
        longest, longer = "a" + " " * 2047, "a" + " " * 2048
        self.assert_put(longest, [], longest, "a")
        self.assert_refused(longer, [], longest, -1)
        self.assert_refused(longest, [], longer, -11)
        self.assert_refused(longer, [], longer, -1)
        self.assert_refused(longest, [0], longer + " " * 2047, -11)


if __name__ == "__main__":
    unittest.main()
