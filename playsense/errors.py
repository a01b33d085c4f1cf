"""The errors that the package raises."""


class SenseFault(ValueError):
    """The base of the errors of this package."""


class TextFault(SenseFault):
    """A text is no term or no kind: at is the number of the sign where that shows."""

    def __init__(self, at, reason):
        super().__init__(f"{reason} at sign {at}")
        self.at = at
        self.reason = reason


class KindFault(SenseFault):
    """A term has no kind: path leads to the part where that shows."""

    def __init__(self, path, reason):
        super().__init__(f"{reason} at part {path}")
        self.path = path
        self.reason = reason


class TooMany(SenseFault):
    """Too much is asked for."""
