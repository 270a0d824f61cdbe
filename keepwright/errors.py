"""The errors of keepwright: all stand under KeepFault, a ValueError."""


class KeepFault(ValueError):
    """What keepwright refuses."""


class BadPath(KeepFault):
    """A path, or a folder, that can't be."""


class BadPiece(KeepFault):
    """A piece that isn't what its name tells."""


class BadRule(KeepFault):
    """A rule, or a pattern, that can't be."""


class BadPaper(KeepFault):
    """A paper that doesn't show what it is to show."""


class BadSize(KeepFault):
    """A count or number that is out of bounds."""


class BadStore(KeepFault):
    """Kept words that aren't whole."""


class BadText(KeepFault):
    """A text that isn't one of the language."""


class Lost(KeepFault):
    """Too much is lost to be made again."""


class NoSuch(KeepFault):
    """What isn't there."""
