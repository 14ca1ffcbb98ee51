"""Reading a text's tree by the grammar."""

from recipetexts.cutting import cut
from recipetexts.refusals import LevelTooDeep, NameTwice, TextTooLong, WrongSyntax
from recipetexts.trees import Node, refuse_deep

MOST_TEXT_BYTES = 2048
MOST_LEVELS = 40

# For each part of the grammar its choices. A choice is taken where its first symbol fits the
# token that stands there; where none fits, the last one is taken. A symbol is a part (in
# capitals), a token's kind, or with `@` before it something to be done:
#   @begin   begin a node
#   @take    begin a node whose first kid is the tree that was built last
#   @label   give the node begun last the token read last as a label
#   @fresh   refuse the token read last if the node begun last has met this name before
#   @enter and @leave  count the levels
#   any other  end the node begun last: it is of this kind
GRAMMAR = {
    "EXPR": ("@enter FORM @leave",),
    "FORM": (
        "fn FUNCTION",
        "let @begin name BOUND BINDS in EXPR @let",
        "if @begin EXPR then EXPR else EXPR @if",
        "must @begin EXPR ; EXPR @must",
        "OR",
    ),
    "FUNCTION": ("name @begin @label : EXPR @fn", "{ @begin FIELDS"),
    "FIELDS": ("} : EXPR @fields", "PARAMS"),
    "PARAMS": (".. } : EXPR @fields..", "name @fresh @begin @label GIVEN @param MORE-PARAMS"),
    "GIVEN": ("? EXPR", ""),
    "MORE-PARAMS": (", PARAMS", "} : EXPR @fields"),
    "BINDS": ("name BOUND BINDS", ""),
    "BOUND": ("@fresh @label = EXPR ;",),
    "OR": ("AND MORE-OR",),
    "MORE-OR": ("or @take AND @or MORE-OR", ""),
    "AND": ("NOT MORE-AND",),
    "MORE-AND": ("and @take NOT @and MORE-AND", ""),
    "NOT": ("not @begin NOT @not", "CMP"),
    "CMP": ("UPD MORE-CMP",),
    "MORE-CMP": (
        "== @take UPD @==",
        "!= @take UPD @!=",
        "< @take UPD @<",
        "<= @take UPD @<=",
        "has @take name @label @has",
        "",
    ),
    "UPD": ("JOIN MORE-UPD",),
    "MORE-UPD": ("// @take UPD @//", ""),
    "JOIN": ("SUM MORE-JOIN",),
    "MORE-JOIN": ("++ @take JOIN @++", ""),
    "SUM": ("PROD MORE-SUM",),
    "MORE-SUM": ("+ @take PROD @+ MORE-SUM", "- @take PROD @- MORE-SUM", ""),
    "PROD": ("NEG MORE-PROD",),
    "MORE-PROD": ("* @take NEG @* MORE-PROD", ""),
    "NEG": ("- @begin NEG @neg", "APP"),
    "APP": ("SEL ARGUMENTS",),
    "ARGUMENTS": ("ARGUMENT ARGUMENTS", ""),
    "ARGUMENT": ("@take SEL @app",),
    "SEL": ("ATOM DOTS",),
    "DOTS": (". @take name @label MORE-DOTS DEFAULT @get", ""),
    "MORE-DOTS": (". name @label MORE-DOTS", ""),
    "DEFAULT": ("? ATOM", ""),
    "ATOM": (
        "name @begin @label @name",
        "number @begin @label @num",
        "true @begin @yes",
        "false @begin @no",
        "none @begin @none",
        "quote @begin PIECES unquote @text",
        "( EXPR )",
        "[ @begin LIST @list",
        "{ @begin BINDS } @record",
        "rec { @begin BINDS } @recur",
    ),
    "PIECES": ("piece @begin @label @piece PIECES", "hole EXPR unhole PIECES", ""),
    "LIST": ("]", "EXPR MORE-LIST ]"),
    "MORE-LIST": (", EXPR MORE-LIST", ""),
}

ATOM_BEGINNINGS = ("name", "number", "true", "false", "none", "rec", "quote", "(", "[", "{")


# A node that is not ended yet: its kids are what is built from the first one on.
class Begun:
    def __init__(self, first):
        self.first = first
        self.labels = []
        self.names = {}


def fits(first, kind):
    # Every other choice that begins with a part is the last one of its row.
    if first == "ARGUMENT":
        return kind in ATOM_BEGINNINGS
    return first == kind


def choose(part, kind):
    symbols = []
    for choice in GRAMMAR[part]:
        symbols = choice.split()
        if symbols and fits(symbols[0], kind):
            return symbols
    return symbols


def meet_name(names, token):
    name = tuple(token.held)
    if name in names:
        raise NameTwice(token.place)
    names[name] = True


# How far the reading of one text's tokens has come.
class Reader:
    def __init__(self, tokens):
        self.tokens = tokens
        self.at = 0
        self.level = 0
        # The symbols that have yet to be met, the next one last.
        self.waiting = ["end", "EXPR"]
        self.built = []
        self.begun = []

    def step(self):
        symbol = self.waiting.pop()
        if symbol in GRAMMAR:
            chosen = choose(symbol, self.tokens[self.at].kind)
            self.waiting.extend(chosen[::-1])
        elif symbol.startswith("@"):
            self.act(symbol[1:])
        else:
            self.read_token(symbol)

    def read_token(self, kind):
        token = self.tokens[self.at]
        if token.kind != kind:
            raise WrongSyntax(token.place)
        self.at += 1

    def act(self, action):
        if action == "begin":
            self.begun.append(Begun(len(self.built)))
        elif action == "take":
            self.begun.append(Begun(len(self.built) - 1))
        elif action == "label":
            self.begun[-1].labels.append(self.tokens[self.at - 1].held)
        elif action == "fresh":
            meet_name(self.begun[-1].names, self.tokens[self.at - 1])
        elif action == "enter":
            self.enter_level()
        elif action == "leave":
            self.level -= 1
        else:
            self.end_node(action)

    def enter_level(self):
        if self.level == MOST_LEVELS:
            raise LevelTooDeep(self.tokens[self.at].place)
        self.level += 1

    def end_node(self, kind):
        begun = self.begun.pop()
        kids = []
        while len(self.built) > begun.first:
            kids.append(self.built.pop())
        self.built.append(Node(kind, begun.labels, kids[::-1]))


def read(text):
    if len(text) > MOST_TEXT_BYTES:
        raise TextTooLong()
    reader = Reader(cut(text))
    while reader.waiting:
        reader.step()
    tree = reader.built[0]
    refuse_deep(tree)
    return tree
