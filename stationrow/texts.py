"""A works as a text: how it is shown, and how it is read of anything."""

from stationrow.errors import NoRow, NoTask, Twice
from stationrow.works import MOST_FIGURES, MOST_KINDS, MOST_ORDERS, MOST_PAIRS, MOST_STANDS, MOST_TASKS, is_name

FIGURES = "0123456789"
PAIR_WORDS = ("with", "apart")


def task_row(task):
    return " ".join(["task", task[0], str(task[1])] + list(task[2]))


def order_row(order):
    return " ".join(["order", order[0], order[1]])


def pair_row(pair):
    return " ".join([pair[0], pair[1], pair[2]])


def stands_row(kinds):
    return " ".join(["row"] + list(kinds))


def show_works(works):
    """The works as a text: its tasks, orders and pairs, and its row at last."""
    rows = [task_row(task) for task in works[0]]
    rows.extend([order_row(order) for order in works[1]])
    rows.extend([pair_row(pair) for pair in works[2]])
    rows.append(stands_row(works[3]))
    return "\n".join(rows)


def are_names(words):
    return all([is_name(word) for word in words])


def is_length(word):
    # The signs are looked at one by one, as int and isdigit take more than plain figures.
    if not 1 <= len(word) <= MOST_FIGURES or word[0] == "0":
        return False
    return all([sign in FIGURES for sign in word])


def is_task_written(words):
    """Whether the words behind `task` are a name, a length and no more kinds than a task may have."""
    if not 2 <= len(words) <= 2 + MOST_KINDS:
        return False
    return is_name(words[0]) and is_length(words[1]) and are_names(words[2:])


def is_row_written(words):
    """Whether a row of these words, taken by itself, is written as told."""
    behind = words[1:]
    if words[0] == "task":
        return is_task_written(behind)
    if words[0] == "row":
        return 1 <= len(behind) <= MOST_STANDS and are_names(behind)
    if words[0] == "order" or words[0] in PAIR_WORDS:
        return len(behind) == 2 and are_names(behind)
    return False


def names_of(tasks):
    return [task[0] for task in tasks]


def read_task(words, tasks, number):
    """The task of a written row, where these tasks came ahead."""
    if len(tasks) >= MOST_TASKS:
        raise NoRow(number)
    kinds = tuple(words[3:])
    if words[1] in names_of(tasks) or len(set(kinds)) < len(kinds):
        raise Twice(number)
    return (words[1], int(words[2]), kinds)


def check_new(told, ahead, most, number):
    """Refuse an order or pair that is one too many or came ahead."""
    if len(ahead) >= most:
        raise NoRow(number)
    if told in ahead:
        raise Twice(number)


def check_ends(one, other, tasks, number):
    """Refuse two names that aren't those of two unlike tasks which came ahead."""
    names = names_of(tasks)
    if one == other or one not in names or other not in names:
        raise NoTask(number)


def read_order(words, tasks, orders, number):
    """The order of a written row, where these tasks and orders came ahead."""
    order = (words[1], words[2])
    check_new(order, orders, MOST_ORDERS, number)
    check_ends(words[1], words[2], tasks, number)
    return order


def read_pair(words, tasks, pairs, number):
    """The pair of a written row, where these tasks and pairs came ahead."""
    pair = (words[0], words[1], words[2])
    check_new(pair, pairs, MOST_PAIRS, number)
    check_ends(words[1], words[2], tasks, number)
    return pair


def read_rows(rows):
    """The works that the rows tell, or the refusal of the first odd one."""
    tasks = []
    orders = []
    pairs = []
    stands = ()
    for number, row in enumerate(rows, start=1):
        words = row.split(" ")
        # A written row `row` has a stand, so once there are stands it came ahead.
        if len(stands) > 0 or not is_row_written(words):
            raise NoRow(number)
        if words[0] == "task":
            tasks.append(read_task(words, tasks, number))
        elif words[0] == "order":
            orders.append(read_order(words, tasks, orders, number))
        elif words[0] == "row":
            stands = tuple(words[1:])
        else:
            pairs.append(read_pair(words, tasks, pairs, number))
    if len(tasks) == 0 or len(stands) == 0:
        raise NoRow(len(rows) + 1)
    return (tuple(tasks), tuple(orders), tuple(pairs), stands)


def read_works(text):
    """The works that a text tells; anything may be handed in, and is refused where it is no such text."""
    if not isinstance(text, str):
        raise NoRow(0)
    # Only a line feed ends a row: splitlines would part at other signs too.
    return read_rows(text.split("\n"))
