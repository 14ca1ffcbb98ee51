"""The refusals: each one's number without its sign, and the place of the fault."""


class Refusal(Exception):
    def __init__(self, number, place):
        self.number = number
        self.place = place


class TextTooLong(Refusal):
    def __init__(self):
        Refusal.__init__(self, 1, 0)


class WrongToken(Refusal):
    def __init__(self, place):
        Refusal.__init__(self, 2, place)


class WrongSyntax(Refusal):
    def __init__(self, place):
        Refusal.__init__(self, 3, place)


class LevelTooDeep(Refusal):
    def __init__(self, place):
        Refusal.__init__(self, 4, place)


class NameTwice(Refusal):
    def __init__(self, place):
        Refusal.__init__(self, 5, place)


class TreeTooDeep(Refusal):
    def __init__(self):
        Refusal.__init__(self, 6, 0)


class PrintTooLong(Refusal):
    def __init__(self):
        Refusal.__init__(self, 8, 0)
