"""The refusals. Each stands straight under RouteError, so that taking one never takes another."""


class RouteError(ValueError):
    pass


class BadValues(RouteError):
    pass


class NoRow(RouteError):
    pass


class Taken(RouteError):
    pass


class TooMany(RouteError):
    pass


class BadLead(RouteError):
    pass


class NoText(RouteError):
    pass


class NoHole(RouteError):
    pass


class NoSite(RouteError):
    pass


class NoBack(RouteError):
    pass
