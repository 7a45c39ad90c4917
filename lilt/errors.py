"""The refusals: one class for each, all of them under LiltError and none under another."""


class LiltError(ValueError):
    """Any refusal."""


class NoRule(LiltError):
    """A row of a tongue is no rule; `at` is its number, from 0."""

    def __init__(self, at):
        LiltError.__init__(self, f"row {at} is no rule")
        self.at = at


class NoMetre(LiltError):
    """A text is no metre; `at` is the number, from 0, of the word at which none can go on."""

    def __init__(self, at):
        LiltError.__init__(self, f"no metre goes on at word {at}")
        self.at = at


class NoForm(LiltError):
    """A text is no form; `at` is the number, from 0, of the part at which none can go on."""

    def __init__(self, at):
        LiltError.__init__(self, f"no form goes on at part {at}")
        self.at = at


class NoWord(LiltError):
    """A thing is no word of the tongue."""


class NoReading(LiltError):
    """There is no such reading."""


class NoName(LiltError):
    """A name is none, or nothing stands by it."""


class NoRow(LiltError):
    """A row is none that the desk knows."""
