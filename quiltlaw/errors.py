"""The refusals: each stands straight under QuiltError."""


class QuiltError(ValueError):
    """Any refusal."""


class NoPicture(QuiltError):
    """Rows that are no picture; why is the first fault."""

    def __init__(self, why):
        self.why = why


class NoFit(QuiltError):
    """Two pictures that can't be put so."""


class NoRule(QuiltError):
    """What is no rule, or no way of joining."""


class NoGrammar(QuiltError):
    """What is no grammar; why is the first fault."""

    def __init__(self, why):
        self.why = why


class NoText(QuiltError):
    """A text that is no grammar's; row is the number of its first wrong row."""

    def __init__(self, row):
        self.row = row


class NoTree(QuiltError):
    """A tree with a fault; why is the fault."""

    def __init__(self, why):
        self.why = why


class NoWord(QuiltError):
    """A text that is no tree's; at is the number of its first wrong word."""

    def __init__(self, at):
        self.at = at


class NoName(QuiltError):
    """A name that the grammar does not have."""


class TooMany(QuiltError):
    """More than are told."""


class NoNumber(QuiltError):
    """A number at which nothing stands."""


class NoRow(QuiltError):
    """A row that the desk does not know."""
