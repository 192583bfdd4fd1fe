"""The refusals. Each stands straight under SlopeError, so that taking one never takes another."""


class SlopeError(ValueError):
    pass


class NoText(SlopeError):
    pass


class Nought(SlopeError):
    pass


class TooGreat(SlopeError):
    pass


class Hole(SlopeError):
    def __init__(self, many):
        SlopeError.__init__(self, f"places where the bottom is nought: {many}")
        self.many = many


class NoRow(SlopeError):
    def __init__(self, line):
        SlopeError.__init__(self, f"not a row of a sheet: line {line}")
        self.line = line
