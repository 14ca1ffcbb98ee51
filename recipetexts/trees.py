"""The nodes of a tree, and a tree as numbers.

A node's kind is the document's name for it, a sign where the document has a sign; the kind
of a function with `..` among its parameters is called `fields..` here.
"""

from recipetexts.refusals import TreeTooDeep

MOST_DEPTH = 40

KIND_NUMBERS = {
    "piece": 0, "num": 1, "yes": 2, "no": 3, "none": 4, "name": 5, "text": 6, "list": 7,
    "record": 8, "recur": 9, "get": 10, "app": 11, "neg": 12, "not": 13, "has": 14,
    "fn": 15, "fields": 16, "fields..": 17, "param": 18, "let": 19, "if": 20, "must": 21,
    "or": 22, "and": 23, "==": 24, "!=": 25, "<": 26, "<=": 27, "//": 28, "++": 29,
    "+": 30, "-": 31, "*": 32,
}


class Node:
    def __init__(self, kind, labels, kids):
        self.kind = kind
        self.labels = labels
        self.kids = kids
        # Kept with each node, as a tree may be too deep to be gone through by calls.
        self.depth = 1 + max([kid.depth for kid in kids], default=0)


def refuse_deep(tree):
    if tree.depth > MOST_DEPTH:
        raise TreeTooDeep()


# All the nodes of a tree, each one ahead of its kids and of all within them.
def nodes_of(tree):
    nodes = []
    # The nodes that have yet to be met, the next one last.
    waiting = [tree]
    while waiting:
        node = waiting.pop()
        nodes.append(node)
        waiting.extend(node.kids[::-1])
    return nodes


def numbers_of_labels(labels):
    numbers = [len(labels)]
    for label in labels:
        numbers.append(len(label))
        numbers.extend(label)
    return numbers


# Every length and count stands ahead of what it counts, so no two trees have the same numbers.
def numbers_of(tree):
    numbers = []
    for node in nodes_of(tree):
        numbers.append(KIND_NUMBERS[node.kind])
        numbers.extend(numbers_of_labels(node.labels))
        numbers.append(len(node.kids))
    return numbers
