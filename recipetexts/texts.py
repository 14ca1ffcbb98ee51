"""The calls: each answers from its arguments alone."""

from recipetexts.printing import print_short
from recipetexts.reading import read
from recipetexts.refusals import Refusal
from recipetexts.trees import numbers_of

# How much less a refusal is where it is the second text that can't be read.
SECOND_TEXT = 10


def plain(text):
    try:
        return [0] + print_short(read(text))
    except Refusal as refusal:
        return [-refusal.number]


def where(text):
    try:
        read(text)
    except Refusal as refusal:
        return [refusal.number, refusal.place]
    return [0, 0]


def tree(text):
    try:
        return [0] + numbers_of(read(text))
    except Refusal as refusal:
        return [-refusal.number]


def same(a, b):
    try:
        first = numbers_of(read(a))
    except Refusal as refusal:
        return [-refusal.number]
    try:
        second = numbers_of(read(b))
    except Refusal as refusal:
        return [-refusal.number - SECOND_TEXT]
    # Trees with the same numbers are the same tree.
    return [1 if first == second else 0]
