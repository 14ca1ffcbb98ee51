"""What the tests here need: recipes written as Python texts, one byte a sign (latin-1), and trees as numbers."""

import unittest

from recipetexts.texts import part, plain, put, same, sizes, tree, where

# One text for each refusal of reading.
REFUSED = (
    (" " * 2049, -1), ("a !", -2), ("a )", -3), ("(" * 40 + "1", -4), ("{ a = 1; a = 2; }", -5), ("1 " * 41, -6),
)

# The signs of two operands, in the order of their kinds.
OPERATORS = ("or", "and", "==", "!=", "<", "<=", "//", "++", "+", "-", "*")

# A recipe of each rank, as it is printed.
RANKED = (
    "fn x: x", "a or b", "a and b", "not a", "a == b", "a // b", "a ++ b",
    "a + b", "a * b", "-a", "f a", "r.a", "a",
)

# Where a kid stands (as @), the rank at which it is printed there, and the path that leads there.
RANKED_PLACES = (
    ("@.k", 12, [0]), ("@.k ? z", 12, [0]), ("r.k ? @", 12, [1]),
    ("@ y", 10, [0]), ("f @", 11, [1]), ("-@", 9, [0]), ("not @", 3, [0]), ("@ has k", 5, [0]),
    ("@ or z", 1, [0]), ("z or @", 2, [1]), ("@ and z", 2, [0]), ("z and @", 3, [1]),
    ("@ == z", 5, [0]), ("z == @", 5, [1]), ("@ != z", 5, [0]), ("z != @", 5, [1]),
    ("@ < z", 5, [0]), ("z < @", 5, [1]), ("@ <= z", 5, [0]), ("z <= @", 5, [1]),
    ("@ // z", 6, [0]), ("z // @", 5, [1]), ("@ ++ z", 7, [0]), ("z ++ @", 6, [1]),
    ("@ + z", 7, [0]), ("z + @", 8, [1]), ("@ - z", 7, [0]), ("z - @", 8, [1]), ("@ * z", 8, [0]), ("z * @", 9, [1]),
)

# Where kids are printed as they are, whatever their rank, and the paths that lead there.
PLAIN_PLACES = (
    ('"${@}"', [[0]]), ('"a${@}b${@}"', [[1], [3]]), ('"${@}${@}c"', [[0], [1]]),
    ("[@]", [[0]]), ("[@, @]", [[0], [1]]), ("[@, @, @]", [[0], [1], [2]]),
    ("{ a = @; }", [[0]]), ("{ a = @; b = @; }", [[0], [1]]), ("rec { a = @; b = @; }", [[0], [1]]),
    ("fn x: @", [[0]]), ("fn {}: @", [[0]]), ("fn {..}: @", [[0]]), ("fn {a, b}: @", [[2]]), ("fn {a, ..}: @", [[1]]),
    ("fn {a ? @}: @", [[0, 0], [1]]), ("fn {a ? @, b ? @, ..}: @", [[0, 0], [1, 0], [2]]),
    ("fn {a, b ? @, c}: @", [[1, 0], [3]]),
    ("let a = @; in @", [[0], [1]]), ("let a = @; b = @; in @", [[0], [1], [2]]),
    ("if @ then @ else @", [[0], [1], [2]]), ("must @; @", [[0], [1]]),
)

# Paths that lead nowhere in a tree of at most 1000 kids: no tree is 64 steps deep.
NOWHERE = ([-1], [1000], [10 ** 18], [-10 ** 18], [0] * 64, [-1] * 64)


def as_bytes(written):
    return list(written.encode("latin-1"))


def tree_of(written):
    return tree(as_bytes(written))


def node(kind, labels, *kids):
    """The numbers of a node, whose kids are handed in as numbers."""
    numbers = [kind, len(labels)]
    for label in labels:
        numbers += [len(label)] + as_bytes(label)
    numbers.append(len(kids))
    for kid in kids:
        numbers += kid
    return numbers


def unfold(numbers):
    """The tree that the numbers tell, as (kind, labels, kids); there must be neither too few nor too many."""
    place = 0

    def take(count):
        nonlocal place
        taken = numbers[place:place + count]
        assert len(taken) == count, "too few numbers"
        place += count
        return taken

    def unfold_node():
        kind, label_count = take(2)
        labels = [bytes(take(take(1)[0])).decode("latin-1") for label in range(label_count)]
        return kind, labels, [unfold_node() for kid in range(take(1)[0])]

    unfolded = unfold_node()
    assert place == len(numbers), "too many numbers"
    return unfolded


def fold(unfolded):
    kind, labels, kids = unfolded
    return node(kind, labels, *[fold(kid) for kid in kids])


def depth_of(unfolded):
    return 1 + max([depth_of(kid) for kid in unfolded[2]], default=0)


def count_nodes(unfolded):
    return 1 + sum(count_nodes(kid) for kid in unfolded[2])


def lead(unfolded, path):
    """The tree to which the path leads, None if it leads nowhere."""
    for number in path:
        if number not in range(len(unfolded[2])):
            return None
        unfolded = unfolded[2][number]
    return None if unfolded[0] in (0, 18) else unfolded


def replace(unfolded, path, other):
    """The tree with the other one in the place to which the path leads."""
    if not path:
        return other
    kind, labels, kids = unfolded
    new = [replace(kid, path[1:], other) if path[0] == k else kid for k, kid in enumerate(kids)]
    return kind, labels, new


def fill(place, kids):
    """What is written in a place of the lists above, with each kid in its turn."""
    first, *others = place.split("@")
    assert len(others) == len(kids), place
    return first + "".join(kid + other for kid, other in zip(kids, others))


def row(depth):
    """An applying no deeper than told, in its signs; a number stands for a list that may hold so deep a tree.

    It ends with `1a`, as there the bracket behind it parts the name from the next one, at no cost.
    """
    count = depth - (depth + 1) % 3
    return [("1", "a", depth - count + place - 1)[place % 3] for place in range(count)]


def written_row(signs):
    return "".join("[]" if isinstance(sign, int) else sign for sign in signs)


def crowded_recipe():
    """2048 bytes with three nodes for every two of them: applyings cost no byte, and lists part the names."""
    signs = row(40)
    while len(written_row(signs)) < 2048:
        depth = max(sign for sign in signs if isinstance(sign, int))
        place = signs.index(depth)
        while len(written_row(signs) + written_row(row(depth))) > 2048:
            depth -= 1
        signs[place:place + 1] = ["["] + row(depth) + ["]"]
    return written_row(signs)


class RecipeTest(unittest.TestCase):
    maxDiff = None

    def assert_reads(self, written):
        self.assertEqual(where(as_bytes(written)), [0, 0], written)

    def assert_prints(self, written, printed):
        """The print comes out of each call that prints, it is its own print, and it has the same tree and sizes."""
        self.assert_reads(written)
        text, answer = as_bytes(written), [0] + as_bytes(printed)
        self.assertEqual(plain(text), answer, written)
        self.assertEqual(plain(as_bytes(printed)), answer, printed)
        self.assertEqual(part(text, []), answer, written)
        self.assertEqual(put(as_bytes("1"), [], text), answer, written)
        self.assertEqual(sizes(text)[3], len(printed), written)
        self.assertEqual(sizes(as_bytes(printed)), sizes(text), written)
        self.assert_same(written, printed)

    def assert_fault(self, written, number, place):
        text = as_bytes(written)
        self.assertEqual(where(text), [number, place], written)
        self.assertEqual(plain(text), [-number], written)
        self.assertEqual(tree(text), [-number], written)
        self.assertEqual(sizes(text), [-number], written)
        self.assertEqual(same(text, as_bytes("1")), [-number], written)
        self.assertEqual(same(as_bytes("1"), text), [-number - 10], written)
        for path in [[], [1000]]:
            self.assertEqual(part(text, path), [-number], written)
            self.assertEqual(put(text, path, as_bytes("1")), [-number], written)
            self.assertEqual(put(as_bytes("1"), path, text), [-number - 10], written)

    def assert_tree(self, written, numbers):
        self.assertEqual(tree_of(written), [0] + numbers, written)

    def assert_same(self, first, second):
        self.assertEqual(same(as_bytes(first), as_bytes(second)), [1], (first, second))
        self.assertEqual(same(as_bytes(second), as_bytes(first)), [1], (second, first))

    def assert_differ(self, first, second):
        self.assert_same(first, first)
        self.assert_same(second, second)
        self.assertEqual(same(as_bytes(first), as_bytes(second)), [0], (first, second))
        self.assertEqual(same(as_bytes(second), as_bytes(first)), [0], (second, first))

    def assert_part(self, written, path, printed):
        self.assertEqual(part(as_bytes(written), path), [0] + as_bytes(printed), (written, path))
        self.assertEqual(plain(as_bytes(printed)), [0] + as_bytes(printed), printed)

    def assert_put(self, written, path, other, printed):
        """The print comes out, it is its own print, and what was put in is there."""
        self.assertEqual(put(as_bytes(written), path, as_bytes(other)), [0] + as_bytes(printed), (written, path, other))
        self.assertEqual(plain(as_bytes(printed)), [0] + as_bytes(printed), printed)
        self.assertEqual(part(as_bytes(printed), path), plain(as_bytes(other)), (written, path, other))

    def assert_sizes(self, written, nodes, depth, printed):
        """These sizes are told, and the last one is that of the print wherever there is one."""
        self.assertEqual(sizes(as_bytes(written)), [0, nodes, depth, printed], written)
        answer = plain(as_bytes(written))
        if printed > 2048:
            self.assertEqual(answer, [-8], written)
        else:
            self.assertEqual(len(answer), printed + 1, written)
