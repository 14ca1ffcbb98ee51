"""The nodes of a tree.

A node's kind is the document's name for it, a sign where the document has a sign; the kind
of a function with `..` among its parameters is called `fields..` here.
"""


class Node:
    def __init__(self, kind, labels, kids):
        self.kind = kind
        self.labels = labels
        self.kids = kids
        # Kept with each node, as a tree may be too deep to be gone through by calls.
        self.depth = 1 + max([kid.depth for kid in kids], default=0)
