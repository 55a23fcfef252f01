"""The refusals: one class for each, all under GlassError, none under another one."""


class GlassError(ValueError):
    pass


class NoShare(GlassError):
    pass


class NoGlass(GlassError):
    pass


class NoDulling(GlassError):
    pass


class NoFit(GlassError):
    pass


class NoBeliefs(GlassError):
    pass


class TooMany(GlassError):
    pass


class NoText(GlassError):
    pass


class NoRow(GlassError):
    pass


class NoName(GlassError):
    pass


class Full(GlassError):
    pass
