"""The refusals, one class for each kind of them."""


class SearchError(ValueError):
    """Any refusal."""


class NoRule(SearchError):
    """What was handed in makes no rulebook."""


class NoName(SearchError):
    """What was handed in is no name."""


class NoText(SearchError):
    """What was handed in is no text of three parts."""


class Lacking(SearchError):
    """There is nothing under what was handed in."""


class NoMake(SearchError):
    """The house has no make of this number."""


class NoAsking(SearchError):
    """What was handed in makes no asking."""


class NoPath(SearchError):
    """The asking has no node at this path."""


class NoWeighing(SearchError):
    """What was handed in makes no weighing."""


class NoMany(SearchError):
    """What was handed in is no number that is allowed here."""


class Over(SearchError):
    """There is no further page."""


class NoRow(SearchError):
    """What the desk was told is none of its rows."""
