"""The refusals: errors with fields, each straight under its family.

A field keeps the very thing that it is handed and never looks at it, so a refusal can be made of any thing.
"""


class HandsError(ValueError):
    """The base of all refusals."""


class PaperError(HandsError):
    """The family of what is refused as a paper."""


class WorksError(HandsError):
    """The family of what a works, its stands and its houses refuse."""


class TextError(HandsError):
    """The family of what is refused as a text."""


class NoPaper(PaperError):
    """It is no such paper: by what, and at which place of it."""

    def __init__(self, word, at):
        self.word = word
        self.at = at


class NoWorks(WorksError):
    """It is no WHOLE WORKS: by what, and at which place of it."""

    def __init__(self, word, at):
        self.word = word
        self.at = at


class NoDeed(WorksError):
    """The deed can't be done, and why."""

    def __init__(self, deed, why):
        self.deed = deed
        self.why = why


class NoRow(WorksError):
    """Thing k of a row can't stand there, and why."""

    def __init__(self, k, why):
        self.k = k
        self.why = why


class NoMore(WorksError):
    """There are more than this many."""

    def __init__(self, many):
        self.many = many


class NoKeep(WorksError):
    """By this deed something wouldn't be kept."""

    def __init__(self, deed):
        self.deed = deed


class NoHouse(WorksError):
    """The name doesn't fit the houses that there are."""

    def __init__(self, name):
        self.name = name


class NoBack(WorksError):
    """So many deeds can't be taken back."""

    def __init__(self, times):
        self.times = times


class NoText(TextError):
    """In this line this word can't stand, or lacks."""

    def __init__(self, line, word):
        self.line = line
        self.word = word


class NoLine(TextError):
    """The row is of no form."""

    def __init__(self, line):
        self.line = line
