"""The errors that the program raises."""


class StableError(ValueError):
    """The base class of all errors that the program raises."""


class TextError(StableError):
    """A text that does not follow the grammar or exceeds a limit; `at` is an index of the text."""

    def __init__(self, why, at):
        super().__init__(why)
        self.at = at


class LimitError(StableError):
    """Too many instances."""
