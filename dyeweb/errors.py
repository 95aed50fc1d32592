"""The refusals: WebError is any of them, and one class straight under it stands for each kind."""


class WebError(ValueError):
    pass


class NoWeb(WebError):
    pass


class NoTie(WebError):
    pass


class NoDyeing(WebError):
    pass


class NoSetting(WebError):
    pass


class GoesRound(WebError):
    pass


class NoNote(WebError):
    pass
