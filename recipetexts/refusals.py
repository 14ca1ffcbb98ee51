"""The refusals: each one's number without its sign, and the place of the fault."""


class Refusal(Exception):
    def __init__(self, number, place):
        self.number = number
        self.place = place


class TextTooLong(Refusal):
    def __init__(self):
        Refusal.__init__(self, 1, 0)


class WrongToken(Refusal):
    def __init__(self, place):
        Refusal.__init__(self, 2, place)


class WrongSyntax(Refusal):
    def __init__(self, place):
        Refusal.__init__(self, 3, place)


class LevelTooDeep(Refusal):
    def __init__(self, place):
        Refusal.__init__(self, 4, place)


class NameTwice(Refusal):
    def __init__(self, place):
        Refusal.__init__(self, 5, place)


class TreeTooDeep(Refusal):
    def __init__(self):
        Refusal.__init__(self, 6, 0)


class PathNowhere(Refusal):
    def __init__(self):
        Refusal.__init__(self, 7, 0)


class PrintTooLong(Refusal):
    def __init__(self):
        Refusal.__init__(self, 8, 0)


# The second of two texts can't be read; why is told by the refusal that its reading met.
class SecondText(Refusal):
    def __init__(self, met):
        Refusal.__init__(self, 10 + met.number, met.place)
