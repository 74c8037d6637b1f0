"""The refusals, one class for each."""


class RowError(ValueError):
    """Any refusal."""


class NoRow(RowError):
    """A text's row that isn't written as told, is one too many or is missing; row 0 where it is no text."""

    def __init__(self, row):
        self.row = row


class Twice(RowError):
    """A text's row that tells again what came ahead."""

    def __init__(self, row):
        self.row = row


class NoTask(RowError):
    """A text's row that doesn't name two unlike tasks which came ahead."""

    def __init__(self, row):
        self.row = row


class Ring(RowError):
    """Orders that lead from a task back to it."""

    def __init__(self, ring):
        self.ring = ring


class Torn(RowError):
    """Two tasks that must and may not share a stand."""

    def __init__(self, one, other):
        self.one = one
        self.other = other


class NoStand(RowError):
    """A group of tasks for which the row has no stand."""

    def __init__(self, tasks):
        self.tasks = tasks


class TooLong(RowError):
    """Tasks that share a stand and together are beyond its beat."""

    def __init__(self, tasks, length):
        self.tasks = tasks
        self.length = length


class NoRoom(RowError):
    """All stands of the row won't do."""
