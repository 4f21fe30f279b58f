"""The refusals: one class for each kind, all under CutError."""


class CutError(ValueError):
    """Any refusal."""


class NoMany(CutError):
    """What was asked for is no number of pieces of the row."""


class NoPlace(CutError):
    """What was named is no place."""


class NoNumber(CutError):
    """What was handed in is no whole number from 0 on."""


class NoText(CutError):
    """What was handed in is no text of a row."""


class NoCommand(CutError):
    """What was said is no command."""
