"""The refusals: one class for each kind, all under StackError, none under another one."""


class StackError(ValueError):
    """Any refusal."""


class NoNumber(StackError):
    """There is no such number: something is divided by 0."""


class NoRow(StackError):
    """A row that will not do: 0 where it may not be, or one that does not divide."""


class NoEnds(StackError):
    """Two ends with nothing between them, or an end that is a root."""


class NoPlace(StackError):
    """What should be a place is none."""


class NoText(StackError):
    """What should be a written term or saying is none."""


class NoKind(StackError):
    """A saying of another kind than the one asked for."""


class NoHeight(StackError):
    """What should be a height is none."""


class NoLine(StackError):
    """A row that the desk does not know."""
