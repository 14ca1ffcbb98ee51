"""Where a path leads in a tree, and putting another tree there."""

from recipetexts.refusals import PathNowhere
from recipetexts.trees import Node

# What is no recipe by itself: it can be passed through, but no path ends there.
NO_RECIPES = ("piece", "param")


# The nodes on the way, the tree itself first and the one to which the path leads last.
def follow(tree, path):
    met = [tree]
    for k in path:
        kids = met[-1].kids
        # Python would count a number below 0 from the end.
        if k < 0 or k >= len(kids):
            raise PathNowhere()
        met.append(kids[k])
    if met[-1].kind in NO_RECIPES:
        raise PathNowhere()
    return met


def part_at(tree, path):
    return follow(tree, path)[-1]


# The nodes on the way are built anew from the last one up, so that each depth is that of its new kids.
def put_at(tree, path, other):
    steps = list(zip(path, follow(tree, path)))
    built = other
    for k, node in reversed(steps):
        built = Node(node.kind, node.labels, node.kids[:k] + [built] + node.kids[k + 1:])
    return built
