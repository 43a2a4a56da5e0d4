"""The refusals. Each stands straight beneath ViewError, so that none is taken for another."""


class ViewError(ValueError):
    pass


class NoKind(ViewError):
    pass


class NoName(ViewError):
    pass


class Twice(ViewError):
    pass


class NoDeed(ViewError):
    pass


class NoView(ViewError):
    def __init__(self, way):
        self.way = list(way)


class CantPut(ViewError):
    def __init__(self, way):
        self.way = list(way)


class NoFit(ViewError):
    def __init__(self, way):
        self.way = list(way)


class NoPaper(ViewError):
    def __init__(self, at):
        self.at = at


class NoText(ViewError):
    def __init__(self, place):
        self.place = place
