"""The errors of this package; each keeps what it was made with."""


class ListError(ValueError):
    """What this package refuses."""


class Unfit(ListError):
    """There is nothing that would fit what was asked for."""


class BadText(ListError):
    """A value is no text that can be read; place is the first sign that is wrong."""

    def __init__(self, place):
        super().__init__(f"cannot be read at the place {place}")
        self.place = place


class BadRule(ListError):
    """What was read is no rule; error is what rule_error tells of it."""

    def __init__(self, error):
        super().__init__(f"no rule: {error}")
        self.error = error


class BadOrder(ListError):
    """What was read or handed in is no order, or no text; error tells why."""

    def __init__(self, error):
        super().__init__(f"no order, or no text: {error}")
        self.error = error


class BadTable(ListError):
    """What was read is no table; error is what table_error tells of it."""

    def __init__(self, error):
        super().__init__(f"no table: {error}")
        self.error = error


class BadStream(ListError):
    """A value is no stream of a table; place is where it goes wrong."""

    def __init__(self, place):
        super().__init__(f"no stream from the place {place} on")
        self.place = place


class TooMany(ListError):
    """There is more than limit, a bound of this package, lets."""

    def __init__(self, limit):
        super().__init__(f"more than {limit}")
        self.limit = limit


class NoName(ListError):
    """Nothing of the sort that is wanted has the name given."""

    def __init__(self, given):
        super().__init__(f"nothing is called {given}")
        self.given = given


class Taken(ListError):
    """The name given stands already for something else."""

    def __init__(self, given):
        super().__init__(f"already taken: {given}")
        self.given = given


class NothingToUndo(ListError):
    """No edit is left to take back, or to do again."""


class TooManyEdits(ListError):
    """As many edits stand as a desk keeps."""


class BadLog(ListError):
    """A value is no log of edits; place is its first item that is wrong."""

    def __init__(self, place):
        super().__init__(f"no log of edits from the place {place} on")
        self.place = place
