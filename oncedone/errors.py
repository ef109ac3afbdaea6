"""The refusals: each stands under OnceError, and none under another one."""


class OnceError(ValueError):
    pass


class Wrong(OnceError):
    def __init__(self, at):
        self.at = at


class NoThing(OnceError):
    def __init__(self, at):
        self.at = at


class TooMany(OnceError):
    def __init__(self, most):
        self.most = most


class NoWay(OnceError):
    def __init__(self, at):
        self.at = at


class NoText(OnceError):
    pass
