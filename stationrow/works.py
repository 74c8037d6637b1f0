"""What a works is: a tuple (tasks, orders, pairs, row), its bounds, and the works turned about."""

MOST_LETTERS = 8
MOST_FIGURES = 60
MOST_TASKS = 8
MOST_KINDS = 4
MOST_ORDERS = 28
MOST_PAIRS = 12
MOST_STANDS = 8

LETTERS = "abcdefghijklmnopqrstuvwxyz"


def is_name(word):
    """Whether a text is a name: one to eight small letters."""
    return 1 <= len(word) <= MOST_LETTERS and all([sign in LETTERS for sign in word])


def turned_about(works):
    """The works with each order's names exchanged and its row the other way about."""
    orders = tuple([(other, one) for one, other in works[1]])
    row = tuple(reversed(works[3]))
    return (works[0], orders, works[2], row)
