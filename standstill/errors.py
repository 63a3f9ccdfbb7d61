"""The refusals."""


class StillError(ValueError):
    """Any refusal."""


class NoRow(StillError):
    """A text has none of a row's forms, or no row has a number."""


class BadName(StillError):
    """A name in the rows is told twice, or isn't told where it must be."""


class Wide(StillError):
    """The rows would give too many plain rules, things or items."""


class NoThing(StillError):
    """A text is that of no thing."""
