"""What every test here needs: recipes written as Python texts, one byte a sign (latin-1)."""

import unittest

from recipetexts.texts import plain, where


def as_bytes(written):
    return list(written.encode("latin-1"))


class RecipeTest(unittest.TestCase):
    maxDiff = None

    def assert_reads(self, written):
        self.assertEqual(where(as_bytes(written)), [0, 0], written)

    def assert_prints(self, written, printed):
        """The print comes out, and it is its own print."""
        self.assert_reads(written)
        self.assertEqual(plain(as_bytes(written)), [0] + as_bytes(printed), written)
        self.assertEqual(plain(as_bytes(printed)), [0] + as_bytes(printed), printed)

    def assert_fault(self, written, number, place):
        self.assertEqual(where(as_bytes(written)), [number, place], written)
        self.assertEqual(plain(as_bytes(written)), [-number], written)
