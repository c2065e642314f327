"""The errors that the package raises."""


class StoreError(ValueError):
    """Any error of this package."""


class InvalidStore(StoreError):
    """What was given for a store is none; `at` is the index of the wrong office."""

    def __init__(self, at):
        self.at = at


class InvalidText(StoreError):
    """A text of no store; `at` is the first index with which no text of a store goes on."""

    def __init__(self, at):
        self.at = at


class InvalidRun(StoreError):
    """What was given for a run is none; `at` is the first wrong index."""

    def __init__(self, at):
        self.at = at


class InvalidState(StoreError):
    """What was given for a state is none."""


class InvalidView(StoreError):
    """What was given for a view is none; `at` is the first wrong index."""

    def __init__(self, at):
        self.at = at


class InvalidTable(StoreError):
    """What was given for the table of a group is none; `at` is the first wrong row."""

    def __init__(self, at):
        self.at = at


class InvalidNumber(StoreError):
    """The argument called `word` is not of the kind that is asked."""

    def __init__(self, word):
        self.word = word


class Refused(StoreError):
    """The arguments are of the kinds that are asked, but `word` stands against an answer."""

    def __init__(self, word):
        self.word = word
