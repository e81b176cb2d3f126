"""The refusals, each a class straight under ShareError."""


class ShareError(ValueError):
    """Any refusal."""


class NoFraction(ShareError):
    """A pair whose top is below nought or whose bottom is below one."""


class NotBelow(ShareError):
    """A fraction that does not lie where the asking needs it."""


class TooGreat(ShareError):
    """A share whose number would have too many figures."""


class BadText(ShareError):
    """A text that is not written as shares are."""


class NotRising(ShareError):
    """A text whose shares do not rise."""
