"""The refusals: each straight under ForkError, none under another one."""


class ForkError(ValueError):
    """Any refusal."""


class NoText(ForkError):
    """Rows that show no program; row is the number of the first that is none where it stands."""

    def __init__(self, row):
        ForkError.__init__(self, row)
        self.row = row


class NoProgram(ForkError):
    """A thing that is no right program; function and line tell the first that is not as told."""

    def __init__(self, function, line):
        ForkError.__init__(self, function, line)
        self.function = function
        self.line = line


class NoEnd(ForkError):
    """An input, given, has a run that is dry."""

    def __init__(self, given):
        ForkError.__init__(self, given)
        self.given = given


class NoNever(ForkError):
    """An input, given, has a run that meets what was to be never met."""

    def __init__(self, given):
        ForkError.__init__(self, given)
        self.given = given


class NoRow(ForkError):
    """A row that a desk has no answer for, told in words."""
