"""Works and their texts, for several tests."""

from itertools import combinations
from random import Random

EIGHT = ("a", "bb", "ccc", "dddd", "eeeee", "ffffff", "ggggggg", "hhhhhhhh")

SMALLEST = ((("a", 1, ()),), (), (), ("x",))

SMALLEST_TEXT = "task a 1\nrow x"

MIDDLE = (
    (("saw", 12, ("wood",)), ("drill", 7, ()), ("paint", 305, ("wet", "wood"))),
    (("saw", "drill"), ("drill", "paint")),
    (("with", "saw", "drill"), ("apart", "paint", "saw")),
    ("wood", "wood", "wet"),
)

MIDDLE_TEXT = (
    "task saw 12 wood\n"
    "task drill 7\n"
    "task paint 305 wet wood\n"
    "order saw drill\n"
    "order drill paint\n"
    "with saw drill\n"
    "apart paint saw\n"
    "row wood wood wet"
)


def eight_tasks():
    """Eight tasks with none to four kinds, lengths of one figure and of sixty."""
    kinds = ("k", "kk", "kkk", "kkkkkkkk")
    lengths = (1, 9, 10, 10 ** 59, 10 ** 60 - 1, 10 ** 59 + 1, 99, 100)
    return tuple((EIGHT[k], lengths[k], kinds[:k % 5]) for k in range(8))


def forward_orders():
    """All twenty-eight orders of a task and a later one of eight."""
    return tuple((EIGHT[i], EIGHT[k]) for i in range(8) for k in range(i + 1, 8))


def twelve_pairs():
    """Twelve pairs, among them the same names the other way about and with the other word."""
    ahead = [("with", EIGHT[k], EIGHT[k + 1]) for k in range(4)]
    about = [("with", EIGHT[k + 1], EIGHT[k]) for k in range(4)]
    apart = [("apart", EIGHT[k], EIGHT[k + 1]) for k in range(4)]
    return tuple(ahead + about + apart)


def full_works():
    """As much of all as a works may have."""
    return (eight_tasks(), forward_orders(), twelve_pairs(), ("k", "k", "kk", "kkk", "k", "kkkkkkkk", "kk", "k"))


def many_works():
    """Works of each number of tasks and of stands, without and with kinds, orders and pairs."""
    told = [SMALLEST, MIDDLE, full_works()]
    for count in range(1, 9):
        names = EIGHT[:count]
        orders = tuple(pair for pair in forward_orders() if pair[0] in names and pair[1] in names)
        pairs = tuple(pair for pair in twelve_pairs() if pair[1] in names and pair[2] in names)
        row = ("k", "kk", "k", "kkk", "q", "k", "zzzzzzzz", "task")[:9 - count]
        plain = tuple((name, 10 ** (count * 7), ()) for name in names)
        told.append((plain, (), (), row))
        told.append((eight_tasks()[:count], (), (), row))
        told.append((plain, orders, (), row))
        told.append((plain, (), pairs, row))
        told.append((eight_tasks()[:count], orders, pairs, row))
    return told


def plain_works(names, orders=(), pairs=(), row=("x",)):
    """A works of tasks of length 1 that may be done at all stands; the names are one text, words between blanks."""
    return (tuple((name, 1, ()) for name in names.split()), orders, pairs, row)


def some_of(source, things, most):
    return tuple(source.sample(things, source.randint(0, min(most, len(things)))))


def scattered_works(seed):
    """Works of all sizes, the same ones for the same seed, with and without what the check refuses."""
    source = Random(seed)
    told = []
    for turn in range(120):
        names = source.sample(EIGHT, turn % 8 + 1)
        ends = [(one, other) for one in names for other in names if one != other]
        forward = [(one, other) for one, other in ends if names.index(one) < names.index(other)]
        orders = some_of(source, ends if turn % 3 == 0 else forward, turn % 11)
        pairs = some_of(source, [(word, *end) for word in ("with", "apart") for end in ends], turn % 5)
        kinds = ["k", "kk", "kkk", "q", "z"]
        source.shuffle(names)
        tasks = tuple((name, source.randint(1, 9), some_of(source, kinds, turn % 3)) for name in names)
        told.append((tasks, orders, pairs, tuple(source.choices(kinds, k=source.randint(1, 8)))))
    return told


def names_of(works):
    return tuple(task[0] for task in works[0])


def all_sets(works):
    """All sets of tasks, each a tuple in the tasks' order."""
    return [some for size in range(len(works[0]) + 1) for some in combinations(names_of(works), size)]


def chain_table(works):
    """The pairs of unlike tasks that a chain leads from and to, by going on from step to step."""
    steps = set(works[1])
    for word, one, other in works[2]:
        if word == "with":
            steps |= {(one, other), (other, one)}
    for middle in names_of(works):
        into = [one for one, other in steps if other == middle]
        onward = [other for one, other in steps if one == middle]
        steps |= {(one, other) for one in into for other in onward}
    return {(one, other) for one, other in steps if one != other}


def renamed(works, names):
    """The works with other names for its tasks, by a dict."""
    tasks, orders, pairs, row = works
    return (
        tuple((names[name], length, kinds) for name, length, kinds in tasks),
        tuple((names[one], names[other]) for one, other in orders),
        tuple((word, names[one], names[other]) for word, one, other in pairs),
        row,
    )


def told_otherwise(works):
    """The works with its tasks, orders and pairs told the other way about."""
    return (works[0][::-1], works[1][::-1], works[2][::-1], works[3])
