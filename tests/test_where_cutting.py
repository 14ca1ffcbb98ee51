"""Promise 2, where, for texts that are too long or can't be cut."""

import unittest

from tests.helper import RecipeTest


class Length(RecipeTest):
    def test_2048_bytes(self):
        self.assert_reads("1" + " " * 2047)
        self.assert_fault(" " * 2048, 3, 2048)
        self.assert_fault('"' + "a" * 2047, 2, 2048)

    def test_more(self):
        for length in [2049, 4096]:
            self.assert_fault("1" + " " * (length - 1), 1, 0)
            self.assert_fault("!" * length, 1, 0)
            self.assert_fault("(" * length, 1, 0)


class Names(RecipeTest):
    def test_32_and_33_bytes(self):
        for beginning in ["a" * 29, "Z" * 29, "z-_0" + "9" * 25]:
            self.assert_prints(beginning + "abc", beginning + "abc")
            self.assert_fault(" " + beginning + "abcd", 2, 1)

    def test_every_byte_of_a_name(self):
        signs = "ABCDEFGHIJKLMNOPQRSTUVWXYZabcdefghijklmnopqrstuvwxyz0123456789-_"
        for sign in signs:
            self.assert_prints("x" + sign, "x" + sign)

    def test_words_are_no_names(self):
        for word in "and else false fn has if in let must none not or rec then true with".split():
            self.assert_fault("r." + word, 3, 2)
            self.assert_prints("r." + word + "-", "r." + word + "-")
            self.assert_prints(word.upper(), word.upper())


class Numbers(RecipeTest):
    def test_30_and_31_digits(self):
        self.assert_prints("1" * 30, "1" * 30)
        self.assert_fault("[" + "1" * 31 + "]", 2, 1)

    def test_first_digit_0(self):
        self.assert_prints("0", "0")
        self.assert_prints("0a", "0 a")
        self.assert_prints("0 0", "0 0")
        self.assert_fault("(00)", 2, 1)
        self.assert_fault("01", 2, 0)
        self.assert_fault("0" * 31, 2, 0)


class Literals(RecipeTest):
    def test_each_escape(self):
        for escape in ['\\"', "\\\\", "\\n", "\\t", "\\$"]:
            self.assert_prints('"a' + escape + 'b"', '"a' + escape + 'b"')

    def test_wrong_escapes(self):
        for behind in range(256):
            if chr(behind) not in '"\\nt$':
                self.assert_fault('"a\\' + chr(behind) + '"', 2, 2)

    def test_backslash_at_the_end(self):
        self.assert_fault('"a\\', 2, 2)
        self.assert_fault('"${a}\\', 2, 5)
        self.assert_fault('"a\\"', 2, 4)

    def test_low_bytes(self):
        for byte in range(32):
            written = '"a' + chr(byte) + 'b"'
            if byte in (9, 10):
                self.assert_reads(written)
            else:
                self.assert_fault(written, 2, 2)

    def test_high_bytes_stand_for_themselves(self):
        for byte in range(32, 256):
            if chr(byte) not in '"\\$':
                self.assert_prints('"' + chr(byte) + '"', '"' + chr(byte) + '"')

    def test_not_closed(self):
        for written in ['"', '"a', '"$', '"a${b}', '"a${b}c', '"${"a}', '"${"a"}', '"#\n']:
            self.assert_fault(written, 2, len(written))

    def test_first_fault_from_the_left(self):
        self.assert_fault('"\x01\\q', 2, 1)
        self.assert_fault('"\\q\x01', 2, 1)
        self.assert_fault('! "', 2, 0)


class HolesAndBraces(RecipeTest):
    def test_holes_within_holes(self):
        self.assert_prints('"${"${"${a}"}"}"', '"${"${"${a}"}"}"')
        self.assert_prints('"a${"b${"c${d}e"}f"}g"', '"a${"b${"c${d}e"}f"}g"')
        self.assert_fault('"${"${a}"', 3, 9)

    def test_braces_within_holes(self):
        self.assert_prints('"${{}}"', '"${{}}"')
        self.assert_prints('"${{ a = { b = 1; }; }}}"', '"${{ a = { b = 1; }; }}}"')
        self.assert_prints('"${{ a = "${{}}"; }}"', '"${{ a = "${{}}"; }}"')
        self.assert_fault('"${{}"', 2, 6)
        self.assert_fault('"${{"}"}', 3, 4)

    def test_right_brace_that_closes_nothing(self):
        self.assert_fault("1 }", 3, 2)
        self.assert_fault("{}}", 3, 2)
        self.assert_fault('} "${a}"', 3, 0)
        self.assert_fault('"${a}}"}', 3, 7)

    def test_dollar_and_brace_apart(self):
        self.assert_prints('"$ {a}"', '"\\$ {a}"')
        self.assert_prints('"{a}"', '"{a}"')
        self.assert_fault("${a}", 2, 0)


class OutsideOfLiterals(RecipeTest):
    def test_bytes_that_begin_no_token(self):
        beginning = set(' \t\n\r#"{}()[]=;,.:?+-*<')
        for byte in range(256):
            sign = chr(byte)
            if sign in beginning or sign.isascii() and sign.isalnum():
                continue
            self.assert_fault("a " + sign, 2, 2)
            self.assert_fault("a " + sign + " b", 2, 2)

    def test_halves_of_signs(self):
        self.assert_prints("a // b", "a // b")
        self.assert_fault("a / b", 2, 2)
        self.assert_fault("a /// b", 2, 4)
        self.assert_prints("a != b", "a != b")
        self.assert_fault("a ! = b", 2, 2)

    def test_the_longer_sign_is_cut_first(self):
        self.assert_fault("a === b", 3, 4)
        self.assert_fault("a <== b", 3, 4)
        self.assert_fault("a ++ + b", 3, 5)
        self.assert_fault("a ... b", 3, 2)
        self.assert_prints("a<b", "a < b")
        self.assert_prints("{a=1==2;}", "{ a = 1 == 2; }")

    def test_blanks_and_comments(self):
        self.assert_prints(" \t\n\r1 \t\n\r", "1")
        self.assert_fault("1\x0b", 2, 1)
        self.assert_fault("#", 3, 1)
        self.assert_fault("# a \x00 \xff \" ${", 3, 12)
        self.assert_fault("# a\n", 3, 4)
        self.assert_fault("# a\r1", 3, 5)
        self.assert_prints("#\n1", "1")
        self.assert_prints("1#\n#\n2#", "1 2")
        self.assert_prints('"#"', '"#"')

    def test_a_fault_in_cutting_comes_before_a_fault_in_reading(self):
        self.assert_fault(") !", 2, 2)
        self.assert_fault("{ a = 1; a !", 2, 11)
        self.assert_fault("(" * 41 + "!", 2, 41)
        self.assert_fault('a a ) "', 2, 7)
        self.assert_fault("-" * 50 + "1 !", 2, 52)


if __name__ == "__main__":
    unittest.main()
