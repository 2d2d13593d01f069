"""The errors of the program."""


class HornbookError(ValueError):
    """The base class of all errors."""


class TooLarge(HornbookError):
    """A term became too large."""


class BadTerm(HornbookError):
    """What was given cannot be made a term."""


class BadText(HornbookError):
    """A text cannot be read beyond the index `at`."""

    def __init__(self, at):
        super().__init__(f"the text cannot be read at index {at}")
        self.at = at


class BadOperator(HornbookError):
    """An operator has a wrong priority, form or name."""


class BadClause(HornbookError):
    """A term is no clause, or a program has too many clauses."""


class NotDefinite(HornbookError):
    """A clause is not definite."""


class NotAccepted(HornbookError):
    """A derivation or a tree is not accepted."""


class Forgotten(HornbookError):
    """A generation cannot be asked any more."""


class Closed(HornbookError):
    """A call is closed, or there is no such call."""


class TablesFull(TooLarge):
    """There are too many calls or answers in tables."""


class TooMany(TooLarge):
    """There are too many solutions."""


class BadProblem(HornbookError):
    """A domain or a constraint has none of the right forms."""
