"""Works and their texts, for several tests."""

EIGHT = ("a", "bb", "ccc", "dddd", "eeeee", "ffffff", "ggggggg", "hhhhhhhh")

SMALLEST = ((("a", 1, ()),), (), (), ("x",))

SMALLEST_TEXT = "task a 1\nrow x"

MIDDLE = (
    (("saw", 12, ("wood",)), ("drill", 7, ()), ("paint", 305, ("wet", "wood"))),
    (("saw", "drill"), ("drill", "paint")),
    (("with", "saw", "drill"), ("apart", "paint", "saw")),
    ("wood", "wood", "wet"),
)

MIDDLE_TEXT = (
    "task saw 12 wood\n"
    "task drill 7\n"
    "task paint 305 wet wood\n"
    "order saw drill\n"
    "order drill paint\n"
    "with saw drill\n"
    "apart paint saw\n"
    "row wood wood wet"
)


def eight_tasks():
    """Eight tasks with none to four kinds, lengths of one figure and of sixty."""
    kinds = ("k", "kk", "kkk", "kkkkkkkk")
    lengths = (1, 9, 10, 10 ** 59, 10 ** 60 - 1, 10 ** 59 + 1, 99, 100)
    return tuple((EIGHT[k], lengths[k], kinds[:k % 5]) for k in range(8))


def forward_orders():
    """All twenty-eight orders of a task and a later one of eight."""
    return tuple((EIGHT[i], EIGHT[k]) for i in range(8) for k in range(i + 1, 8))


def twelve_pairs():
    """Twelve pairs, among them the same names the other way about and with the other word."""
    ahead = [("with", EIGHT[k], EIGHT[k + 1]) for k in range(4)]
    about = [("with", EIGHT[k + 1], EIGHT[k]) for k in range(4)]
    apart = [("apart", EIGHT[k], EIGHT[k + 1]) for k in range(4)]
    return tuple(ahead + about + apart)


def full_works():
    """As much of all as a works may have."""
    return (eight_tasks(), forward_orders(), twelve_pairs(), ("k", "k", "kk", "kkk", "k", "kkkkkkkk", "kk", "k"))


def many_works():
    """Works of each number of tasks and of stands, without and with kinds, orders and pairs."""
    told = [SMALLEST, MIDDLE, full_works()]
    for count in range(1, 9):
        names = EIGHT[:count]
        orders = tuple(pair for pair in forward_orders() if pair[0] in names and pair[1] in names)
        pairs = tuple(pair for pair in twelve_pairs() if pair[1] in names and pair[2] in names)
        row = ("k", "kk", "k", "kkk", "q", "k", "zzzzzzzz", "task")[:9 - count]
        plain = tuple((name, 10 ** (count * 7), ()) for name in names)
        told.append((plain, (), (), row))
        told.append((eight_tasks()[:count], (), (), row))
        told.append((plain, orders, (), row))
        told.append((plain, (), pairs, row))
        told.append((eight_tasks()[:count], orders, pairs, row))
    return told
