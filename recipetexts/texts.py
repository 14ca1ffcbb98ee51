"""The calls: each answers from its arguments alone."""

from recipetexts.printing import print_short
from recipetexts.reading import read
from recipetexts.refusals import Refusal


def plain(text):
    try:
        return [0] + print_short(read(text))
    except Refusal as refusal:
        return [-refusal.number]


def where(text):
    try:
        read(text)
    except Refusal as refusal:
        return [refusal.number, refusal.place]
    return [0, 0]
