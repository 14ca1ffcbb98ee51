"""Trees made at random, written with blanks, comments and parentheses at random, then handed to each call."""

import random
import unittest

from recipetexts.texts import part, plain, put, same, sizes, tree
from tests.helper import OPERATORS, as_bytes, count_nodes, depth_of, fold, lead, replace, unfold

NAMES = ("a", "b", "x-", "letter", "B_2", "or-else")
NUMBERS = ("0", "7", "10", "9" * 30)
PIECES = ("a", "\n", "\t\\", '"', "${", "$", "# \xff\x7f", "}")
GAPS = (" ", " ", " ", "\n", "\t \r", '# " ${ \x00\n', " # a\n#\n")
ESCAPES = {'"': '\\"', "\\": "\\\\", "$": "\\$", "\n": "\\n", "\t": "\\t"}


class Maker:
    """Makes trees as (kind, labels, kids)."""

    def __init__(self, seed):
        self.source = random.Random(seed)

    def name(self):
        return [self.source.choice(NAMES)]

    def names(self, least):
        return self.source.sample(NAMES, self.source.randrange(least, 4))

    def kids(self, count, depth):
        return [self.make(depth - 1) for kid in range(count)]

    def make(self, depth):
        if depth == 1:
            return self.leaf(self.source.randrange(1, 6))
        return self.branch(self.source.choice([*range(1, 18), *range(19, 33)]), depth)

    def leaf(self, kind):
        labels = {1: [self.source.choice(NUMBERS)], 5: self.name()}
        return kind, labels.get(kind, []), []

    def branch(self, kind, depth):
        if kind <= 5:
            return self.leaf(kind)
        if kind == 6:
            return kind, [], self.pieces_and_holes(depth)
        if kind in (8, 9):
            labels = self.names(0)
            return kind, labels, self.kids(len(labels), depth)
        if kind == 19:
            labels = self.names(1)
            return kind, labels, self.kids(len(labels) + 1, depth)
        if kind in (16, 17):
            params = [(18, [name], self.kids(self.source.randrange(2), depth)) for name in self.names(0)]
            return kind, [], params + self.kids(1, depth)
        labels = {10: self.names(1), 14: self.name(), 15: self.name()}
        counts = {7: self.source.randrange(4), 10: self.source.randrange(1, 3), 12: 1, 13: 1, 14: 1, 15: 1, 20: 3}
        return kind, labels.get(kind, []), self.kids(counts.get(kind, 2), depth)

    def pieces_and_holes(self, depth):
        kids = []
        for count in range(self.source.randrange(5)):
            if self.source.randrange(2) and not (kids and kids[-1][0] == 0):
                kids.append((0, [self.source.choice(PIECES)], []))
            else:
                kids.append(self.make(depth - 1))
        return kids


class Writer:
    """Writes trees: what could be read otherwise is always put in parentheses, the rest now and then."""

    def __init__(self, seed):
        self.source = random.Random(seed)

    def join(self, *parts):
        return "".join(self.source.choice(GAPS) + part for part in parts)

    def atom(self, unfolded):
        if unfolded[0] <= 9 and self.source.randrange(4):
            return self.write(unfolded)
        return self.join("(", self.write(unfolded), ")")

    def whole(self, unfolded):
        return self.write(unfolded) if self.source.randrange(4) else self.atom(unfolded)

    def wholes(self, kids):
        return [self.whole(kid) for kid in kids]

    def binds(self, labels, kids):
        return self.join(*[self.join(label, "=", self.whole(kid), ";") for label, kid in zip(labels, kids)])

    def listed(self, written):
        return ",".join(self.join(each, "") for each in written)

    def piece(self, label):
        # A line feed and a tab may stand for themselves; so may a dollar sign, but not before a brace.
        return "".join(
            sign if sign in "\n\t" and self.source.randrange(2) else ESCAPES.get(sign, sign) for sign in label
        )

    def text(self, kids):
        parts = [self.piece(kid[1][0]) if kid[0] == 0 else "${" + self.join(self.whole(kid), "}") for kid in kids]
        return '"' + "".join(parts) + '"'

    def param(self, unfolded):
        kind, labels, kids = unfolded
        return self.join(labels[0], *[self.join("?", self.whole(kid)) for kid in kids])

    def get(self, labels, kids):
        dots = [self.join(".", label) for label in labels]
        return self.join(self.atom(kids[0]), *dots, *[self.join("?", self.atom(kid)) for kid in kids[1:]])

    def function(self, kind, kids):
        params = [self.param(kid) for kid in kids[:-1]] + [".."] * (kind == 17)
        return self.join("fn", "{", self.listed(params), "}", ":", self.whole(kids[-1]))

    def write(self, unfolded):
        kind, labels, kids = unfolded
        if kind <= 5:
            return labels[0] if labels else {2: "true", 3: "false", 4: "none"}[kind]
        if kind >= 22:
            return self.join(self.atom(kids[0]), OPERATORS[kind - 22], self.atom(kids[1]))
        return {
            6: lambda: self.text(kids),
            7: lambda: self.join("[", self.listed(self.wholes(kids)), "]"),
            8: lambda: self.join("{", self.binds(labels, kids), "}"),
            9: lambda: self.join("rec", "{", self.binds(labels, kids), "}"),
            10: lambda: self.get(labels, kids),
            11: lambda: self.join(self.atom(kids[0]), self.atom(kids[1])),
            12: lambda: self.join("-", self.atom(kids[0])),
            13: lambda: self.join("not", self.atom(kids[0])),
            14: lambda: self.join(self.atom(kids[0]), "has", labels[0]),
            15: lambda: self.join("fn", labels[0], ":", self.whole(kids[0])),
            16: lambda: self.function(kind, kids),
            17: lambda: self.function(kind, kids),
            19: lambda: self.join("let", self.binds(labels, kids), "in", self.whole(kids[-1])),
            20: lambda: self.join("if", self.whole(kids[0]), "then", self.whole(kids[1]), "else", self.whole(kids[2])),
            21: lambda: self.join("must", self.whole(kids[0]), ";", self.whole(kids[1])),
        }[kind]()


def short_recipes(count):
    """Trees, each with two texts that are short enough to be read."""
    maker, writer = Maker(20261116), Writer(61112026)
    while count > 0:
        made = maker.make(1 + count % 6)
        first, second = as_bytes(writer.write(made)), as_bytes(writer.write(made))
        if max(len(first), len(second)) <= 2048:
            yield made, first, second
            count -= 1


def paths_of(unfolded):
    """The paths to all the nodes of a tree, to pieces and params too."""
    yield []
    for k, kid in enumerate(unfolded[2]):
        for path in paths_of(kid):
            yield [k] + path


class RandomTrees(unittest.TestCase):
    def test_the_tree_is_told_as_it_was_made(self):
        met = set()
        for made, first, second in short_recipes(1500):
            self.assertEqual(tree(first), [0] + fold(made), bytes(first))
            self.assertEqual(tree(second), [0] + fold(made), bytes(second))
            self.assertEqual(unfold(tree(first)[1:]), made)
            met.add(made[0])
        self.assertEqual(met, set(range(1, 33)) - {18})

    def test_the_sizes_are_those_of_the_tree(self):
        for made, first, second in short_recipes(500):
            counted = sizes(first)
            self.assertEqual(counted[:3], [0, count_nodes(made), depth_of(made)], bytes(first))
            self.assertEqual(sizes(second), counted, bytes(second))
            printed = plain(first)
            if printed != [-8]:
                self.assertEqual(counted[3:], [len(printed) - 1], bytes(first))

    def test_two_texts_of_one_tree_are_the_same(self):
        for made, first, second in short_recipes(500):
            self.assertEqual(same(first, second), [1], (bytes(first), bytes(second)))
            printed = plain(first)
            if printed != [-8]:
                self.assertEqual(same(printed[1:], second), [1], bytes(first))

    def test_texts_of_two_trees_are_the_same_only_if_the_trees_are(self):
        equal = 0
        before = [(made, first) for made, first, second in short_recipes(60)]
        for made, first in before:
            for other, text in before:
                self.assertEqual(same(first, text), [int(made == other)], (bytes(first), bytes(text)))
                equal += made == other
        self.assertGreater(equal, 60)

    def test_each_part_is_printed_as_if_it_stood_alone(self):
        writer = Writer(7)
        for made, first, second in short_recipes(150):
            for path in paths_of(made):
                found, answer = lead(made, path), part(first, path)
                if found is None:
                    self.assertEqual(answer, [-7], (bytes(first), path))
                else:
                    self.assertEqual(answer, plain(as_bytes(writer.write(found))), (bytes(first), path))

    def test_what_is_put_in_is_printed_as_if_it_had_been_written(self):
        source, writer = random.Random(8), Writer(9)
        answers = {}
        recipes = [(made, first) for made, first, second in short_recipes(300)]
        for made, first in recipes:
            for count in range(6):
                other, text = source.choice(recipes)
                path = source.choice(list(paths_of(made)))
                answer = put(first, path, text)
                answers[answer[0]] = answers.get(answer[0], 0) + 1
                self.check_put(answer, made, path, other, writer)
        self.assertGreater(min(answers[0], answers[-7]), 50)

    def check_put(self, answer, made, path, other, writer):
        if lead(made, path) is None:
            self.assertEqual(answer, [-7])
            return
        expected = replace(made, path, other)
        self.assertLessEqual(depth_of(expected), 40)
        self.assertEqual(tree(answer[1:]), [0] + fold(expected), bytes(answer[1:]))
        written = as_bytes(writer.write(expected))
        if len(written) <= 2048:
            self.assertEqual(answer, plain(written), bytes(written))

    def test_a_part_put_back_changes_nothing(self):
        for made, first, second in short_recipes(80):
            for path in paths_of(made):
                found = part(first, path)
                if found[0] == 0:
                    self.assertEqual(put(second, path, found[1:]), plain(first), (bytes(first), path))


if __name__ == "__main__":
    unittest.main()
