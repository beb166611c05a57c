"""What the program refuses with: one error class for each kind of refusal."""


class NestError(ValueError):
    """Any refusal."""


class NoNests(NestError):
    """A table's count or one of its multipliers is out of its limits."""


class NoName(NestError):
    """A text is no name."""


class NoValue(NestError):
    """A number is no value."""


class NoNest(NestError):
    """There is no such nest in the table."""


class NoHome(NestError):
    """A nest is no home of the name."""


class Taken(NestError):
    """A nest that should be free has a thing."""


class Twice(NestError):
    """A name that should not be there stands there already."""


class NoRoom(NestError):
    """Neither way from the homes of a name ends in a free nest."""


class Unknown(NestError):
    """A name that should be there is not."""


class NoNote(NestError):
    """A text is no table written as rows."""
