"""Printing a tree in the plain form.

Each kind of node is laid out as a list of parts: a written text, a list of bytes, or a node
that is yet to be printed.
"""

from recipetexts.refusals import PrintTooLong
from recipetexts.signs import BACKSLASH, DOLLAR, LINE_FEED, QUOTE, TAB, bytes_of
from recipetexts.trees import Node

MOST_PRINTED_BYTES = 2048

RANKS = {
    "fn": 0, "fields": 0, "fields..": 0, "let": 0, "if": 0, "must": 0,
    "or": 1,
    "and": 2,
    "not": 3,
    "==": 4, "!=": 4, "<": 4, "<=": 4, "has": 4,
    "//": 5,
    "++": 6,
    "+": 7, "-": 7,
    "*": 8,
    "neg": 9,
    "app": 10,
    "get": 11,
}
HIGHEST_RANK = 12

GATHERED_FROM_LEFT = ("or", "and", "+", "-", "*")
GATHERED_FROM_RIGHT = ("//", "++")


def at(kid, rank):
    if RANKS.get(kid.kind, HIGHEST_RANK) < rank:
        return ["(", kid, ")"]
    return [kid]


def put_between(groups, mark):
    parts = []
    for k, group in enumerate(groups):
        if k > 0:
            parts.append(mark)
        parts.extend(group)
    return parts


def lay_label(node):
    return [node.labels[0]]


def lay_yes(node):
    return ["true"]


def lay_no(node):
    return ["false"]


def lay_none(node):
    return ["none"]


def lay_piece(node):
    printed = []
    for byte in node.labels[0]:
        if byte in (QUOTE, BACKSLASH, DOLLAR):
            printed.append(BACKSLASH)
            printed.append(byte)
        elif byte == LINE_FEED:
            printed.extend(bytes_of("\\n"))
        elif byte == TAB:
            printed.extend(bytes_of("\\t"))
        else:
            printed.append(byte)
    return [printed]


def lay_text(node):
    parts = ["\""]
    for kid in node.kids:
        if kid.kind == "piece":
            parts.append(kid)
        else:
            parts.extend(["${", kid, "}"])
    return parts + ["\""]


def lay_list(node):
    return ["["] + put_between([[kid] for kid in node.kids], ", ") + ["]"]


def lay_binds(node):
    return put_between([[label, " = ", kid, ";"] for label, kid in zip(node.labels, node.kids)], " ")


def lay_record(node):
    if not node.labels:
        return ["{}"]
    return ["{ "] + lay_binds(node) + [" }"]


def lay_recur(node):
    return ["rec "] + lay_record(node)


def lay_get(node):
    parts = at(node.kids[0], HIGHEST_RANK)
    for label in node.labels:
        parts.extend([".", label])
    if len(node.kids) > 1:
        parts.append(" ? ")
        parts.extend(at(node.kids[1], HIGHEST_RANK))
    return parts


def lay_app(node):
    return at(node.kids[0], RANKS["app"]) + [" "] + at(node.kids[1], RANKS["get"])


def lay_neg(node):
    return ["-"] + at(node.kids[0], RANKS["neg"])


def lay_not(node):
    return ["not "] + at(node.kids[0], RANKS["not"])


def lay_has(node):
    return at(node.kids[0], RANKS["has"] + 1) + [" has ", node.labels[0]]


def lay_fn(node):
    return ["fn ", node.labels[0], ": ", node.kids[0]]


def lay_fields(node):
    groups = [[kid] for kid in node.kids[:-1]]
    if node.kind == "fields..":
        groups.append([".."])
    return ["fn {"] + put_between(groups, ", ") + ["}: ", node.kids[-1]]


def lay_param(node):
    if not node.kids:
        return [node.labels[0]]
    return [node.labels[0], " ? ", node.kids[0]]


def lay_let(node):
    return ["let "] + lay_binds(node) + [" in ", node.kids[-1]]


def lay_if(node):
    return ["if ", node.kids[0], " then ", node.kids[1], " else ", node.kids[2]]


def lay_must(node):
    return ["must ", node.kids[0], "; ", node.kids[1]]


def lay_operands(node):
    rank = RANKS[node.kind]
    left = rank if node.kind in GATHERED_FROM_LEFT else rank + 1
    right = rank if node.kind in GATHERED_FROM_RIGHT else rank + 1
    return at(node.kids[0], left) + [" ", node.kind, " "] + at(node.kids[1], right)


LAYOUTS = {
    "piece": lay_piece, "num": lay_label, "yes": lay_yes, "no": lay_no, "none": lay_none,
    "name": lay_label, "text": lay_text, "list": lay_list, "record": lay_record, "recur": lay_recur,
    "get": lay_get, "app": lay_app, "neg": lay_neg, "not": lay_not, "has": lay_has,
    "fn": lay_fn, "fields": lay_fields, "fields..": lay_fields, "param": lay_param,
    "let": lay_let, "if": lay_if, "must": lay_must,
    "or": lay_operands, "and": lay_operands, "==": lay_operands, "!=": lay_operands,
    "<": lay_operands, "<=": lay_operands, "//": lay_operands, "++": lay_operands,
    "+": lay_operands, "-": lay_operands, "*": lay_operands,
}


def lay_out(node):
    return LAYOUTS[node.kind](node)


def print_whole(tree):
    printed = []
    # What has yet to be printed, the next part last.
    waiting = [tree]
    while waiting:
        part = waiting.pop()
        if isinstance(part, Node):
            waiting.extend(lay_out(part)[::-1])
        elif isinstance(part, str):
            printed.extend(bytes_of(part))
        else:
            printed.extend(part)
    return printed


def print_short(tree):
    printed = print_whole(tree)
    if len(printed) > MOST_PRINTED_BYTES:
        raise PrintTooLong()
    return printed
