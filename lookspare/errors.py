"""The refusals: one class each, all under SpareError."""


class SpareError(ValueError):
    pass


class BadRow(SpareError):
    def __init__(self, at):
        self.at = at


class NoProgram(SpareError):
    def __init__(self, line):
        self.line = line


class NoPaper(SpareError):
    def __init__(self, at):
        self.at = at


class NoLoop(SpareError):
    pass
