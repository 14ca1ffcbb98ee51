"""The calls: each answers from its arguments alone."""

from recipetexts.paths import part_at, put_at
from recipetexts.printing import print_short, print_whole
from recipetexts.reading import read
from recipetexts.refusals import Refusal, SecondText
from recipetexts.trees import nodes_of, numbers_of, refuse_deep


def plain(text):
    try:
        return [0] + print_short(read(text))
    except Refusal as refusal:
        return [-refusal.number]


def where(text):
    try:
        read(text)
    except Refusal as refusal:
        return [refusal.number, refusal.place]
    return [0, 0]


def tree(text):
    try:
        return [0] + numbers_of(read(text))
    except Refusal as refusal:
        return [-refusal.number]


def read_second(text):
    try:
        return read(text)
    except Refusal as refusal:
        raise SecondText(refusal) from refusal


def same(a, b):
    try:
        first = numbers_of(read(a))
        second = numbers_of(read_second(b))
    except Refusal as refusal:
        return [-refusal.number]
    # Trees with the same numbers are the same tree.
    return [1 if first == second else 0]


def part(text, path):
    try:
        return [0] + print_short(part_at(read(text), path))
    except Refusal as refusal:
        return [-refusal.number]


def put(text, path, other):
    try:
        # Both texts are read before the path is followed: their refusals come first.
        whole = read(text)
        inner = read_second(other)
        changed = put_at(whole, path, inner)
        refuse_deep(changed)
        return [0] + print_short(changed)
    except Refusal as refusal:
        return [-refusal.number]


def sizes(text):
    try:
        whole = read(text)
    except Refusal as refusal:
        return [-refusal.number]
    return [0, len(nodes_of(whole)), whole.depth, len(print_whole(whole))]
