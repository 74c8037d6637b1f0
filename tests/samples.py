"""Works and their texts, for several tests."""

from functools import lru_cache
from itertools import combinations, product
from random import Random

from stationrow.checks import check_works
from stationrow.errors import RowError

EIGHT = ("a", "bb", "ccc", "dddd", "eeeee", "ffffff", "ggggggg", "hhhhhhhh")

LONGEST = 10 ** 60 - 1

SMALLEST = ((("a", 1, ()),), (), (), ("x",))

SMALLEST_TEXT = "task a 1\nrow x"

MIDDLE = (
    (("saw", 12, ("wood",)), ("drill", 7, ()), ("paint", 305, ("wet", "wood"))),
    (("saw", "drill"), ("drill", "paint")),
    (("with", "saw", "drill"), ("apart", "paint", "saw")),
    ("wood", "wood", "wet"),
)

MIDDLE_TEXT = (
    "task saw 12 wood\n"
    "task drill 7\n"
    "task paint 305 wet wood\n"
    "order saw drill\n"
    "order drill paint\n"
    "with saw drill\n"
    "apart paint saw\n"
    "row wood wood wet"
)


def eight_tasks():
    """Eight tasks with none to four kinds, lengths of one figure and of sixty."""
    kinds = ("k", "kk", "kkk", "kkkkkkkk")
    lengths = (1, 9, 10, 10 ** 59, 10 ** 60 - 1, 10 ** 59 + 1, 99, 100)
    return tuple((EIGHT[k], lengths[k], kinds[:k % 5]) for k in range(8))


def forward_orders():
    """All twenty-eight orders of a task and a later one of eight."""
    return tuple((EIGHT[i], EIGHT[k]) for i in range(8) for k in range(i + 1, 8))


def twelve_pairs():
    """Twelve pairs, among them the same names the other way about and with the other word."""
    ahead = [("with", EIGHT[k], EIGHT[k + 1]) for k in range(4)]
    about = [("with", EIGHT[k + 1], EIGHT[k]) for k in range(4)]
    apart = [("apart", EIGHT[k], EIGHT[k + 1]) for k in range(4)]
    return tuple(ahead + about + apart)


def full_works():
    """As much of all as a works may have."""
    return (eight_tasks(), forward_orders(), twelve_pairs(), ("k", "k", "kk", "kkk", "k", "kkkkkkkk", "kk", "k"))


def many_works():
    """Works of each number of tasks and of stands, without and with kinds, orders and pairs."""
    told = [SMALLEST, MIDDLE, full_works()]
    for count in range(1, 9):
        names = EIGHT[:count]
        orders = tuple(pair for pair in forward_orders() if pair[0] in names and pair[1] in names)
        pairs = tuple(pair for pair in twelve_pairs() if pair[1] in names and pair[2] in names)
        row = ("k", "kk", "k", "kkk", "q", "k", "zzzzzzzz", "task")[:9 - count]
        plain = tuple((name, 10 ** (count * 7), ()) for name in names)
        told.append((plain, (), (), row))
        told.append((eight_tasks()[:count], (), (), row))
        told.append((plain, orders, (), row))
        told.append((plain, (), pairs, row))
        told.append((eight_tasks()[:count], orders, pairs, row))
    return told


def plain_works(names, orders=(), pairs=(), row=("x",)):
    """A works of tasks of length 1 that may be done at all stands; the names are one text, words between blanks."""
    return (tuple((name, 1, ()) for name in names.split()), orders, pairs, row)


def sized_works(lengths, orders=(), pairs=(), row=("x",) * 8):
    """A works of so long tasks, named as EIGHT, that may be done at all stands."""
    return (tuple((name, length, ()) for name, length in zip(EIGHT, lengths)), orders, pairs, row)


def unlike_works():
    """Eight tasks of unlike lengths, together 44, and eight stands."""
    return sized_works((7, 3, 5, 9, 4, 6, 8, 2))


def long_works():
    """Eight tasks as long as can be, each one less than the one ahead, and eight stands."""
    return sized_works([LONGEST - k for k in range(8)])


def beyond_works():
    """Nine tasks in a chain and nine stands, the lengths beyond what a works may have."""
    names = tuple("abcdefghi")
    return (tuple((name, 10 ** 61, ()) for name in names), tuple(zip(names, names[1:])), (), ("x",) * 9)


def some_of(source, things, most):
    return tuple(source.sample(things, source.randint(0, min(most, len(things)))))


def scattered_works(seed):
    """Works of all sizes, the same ones for the same seed, with and without what the check refuses."""
    source = Random(seed)
    told = []
    for turn in range(120):
        names = source.sample(EIGHT, turn % 8 + 1)
        ends = [(one, other) for one in names for other in names if one != other]
        forward = [(one, other) for one, other in ends if names.index(one) < names.index(other)]
        orders = some_of(source, ends if turn % 3 == 0 else forward, turn % 11)
        pairs = some_of(source, [(word, *end) for word in ("with", "apart") for end in ends], turn % 5)
        kinds = ["k", "kk", "kkk", "q", "z"]
        source.shuffle(names)
        tasks = tuple((name, source.randint(1, 9), some_of(source, kinds, turn % 3)) for name in names)
        told.append((tasks, orders, pairs, tuple(source.choices(kinds, k=source.randint(1, 8)))))
    return told


def names_of(works):
    return tuple(task[0] for task in works[0])


def all_sets(works):
    """All sets of tasks, each a tuple in the tasks' order."""
    return [some for size in range(len(works[0]) + 1) for some in combinations(names_of(works), size)]


def chain_table(works):
    """The pairs of unlike tasks that a chain leads from and to, by going on from step to step."""
    steps = set(works[1])
    for word, one, other in works[2]:
        if word == "with":
            steps |= {(one, other), (other, one)}
    for middle in names_of(works):
        into = [one for one, other in steps if other == middle]
        onward = [other for one, other in steps if one == middle]
        steps |= {(one, other) for one in into for other in onward}
    return {(one, other) for one, other in steps if one != other}


def renamed(works, names):
    """The works with other names for its tasks, by a dict."""
    tasks, orders, pairs, row = works
    return (
        tuple((names[name], length, kinds) for name, length, kinds in tasks),
        tuple((names[one], names[other]) for one, other in orders),
        tuple((word, names[one], names[other]) for word, one, other in pairs),
        row,
    )


def told_otherwise(works):
    """The works with its tasks, orders and pairs told the other way about."""
    return (works[0][::-1], works[1][::-1], works[2][::-1], works[3])


def stands_check(works):
    try:
        check_works(works)
    except RowError:
        return False
    return True


def is_closed(works, done):
    """Whether with each of them all that chains lead from are done, too, which holds just for a done."""
    return all(one in done for one, other in chain_table(works) if other in done)


def dones_of(works):
    return [done for done in all_sets(works) if is_closed(works, done)]


def plain_number(works, tasks):
    return sum(2 ** names_of(works).index(task) for task in tasks)


def small_works(seed, count):
    """So many works that stand the check, of one to five tasks and one to four stands, each other one with pairs."""
    source = Random(seed)
    told = []
    while len(told) < count:
        names = source.sample(EIGHT, len(told) % 5 + 1)
        ends = [(one, other) for one in names for other in names if one != other]
        forward = [(one, other) for one, other in ends if names.index(one) < names.index(other)]
        orders = some_of(source, ends if len(told) % 7 == 0 else forward, len(told) % 5)
        pairs = some_of(source, [(word, *end) for word in ("with", "apart") for end in ends], len(told) % 2 * 3)
        source.shuffle(names)
        tasks = tuple((name, source.randint(1, 9), some_of(source, ("k", "q", "z"), len(told) % 3)) for name in names)
        works = (tasks, orders, pairs, tuple(source.choices(("k", "q"), k=source.randint(1, 4))))
        if stands_check(works):
            told.append(works)
    return told


def ways_to_deal(works, many):
    """All ways to deal the tasks to so many stands, each stand's tasks in their order."""
    names = names_of(works)
    for stands in product(range(many), repeat=len(names)):
        yield tuple(tuple(name for name, at in zip(names, stands) if at == k) for k in range(many))


def keeps_rules(works, dealing):
    """Whether a way to deal the tasks keeps all orders, pairs and kinds."""
    at = {name: stand for stand, tasks in enumerate(dealing) for name in tasks}
    if any(at[one] > at[other] for one, other in works[1]):
        return False
    if any((at[one] == at[other]) == (word == "apart") for word, one, other in works[2]):
        return False
    return all(kinds == () or works[3][at[name]] in kinds for name, length, kinds in works[0])


def plain_loads(works, dealing):
    lengths = {name: length for name, length, kinds in works[0]}
    return tuple(sum(lengths[name] for name in tasks) for tasks in dealing)


@lru_cache(maxsize=None)
def kept_loads(works, many):
    """The loads of all ways to deal the tasks to so many stands that keep all but a beat."""
    return tuple(plain_loads(works, dealing) for dealing in ways_to_deal(works, many) if keeps_rules(works, dealing))


def has_dealing(works, beat, many):
    """Whether of all ways gone through one is a dealing without a fault."""
    return any(max(loads, default=0) <= beat for loads in kept_loads(works, many))


def telling_beats(works):
    """Beats at which the dealings of a works change, those one less, nought and one above all."""
    lengths = [length for name, length, kinds in works[0]]
    told = {0, max(lengths) - 1, max(lengths), sum(lengths) + 1}
    for many in range(1, len(works[3]) + 1):
        if kept_loads(works, many):
            least = min(max(loads) for loads in kept_loads(works, many))
            told |= {least - 1, least}
    return sorted(told)


def asked_small(seed, count):
    """Small works, each with some telling beats and all numbers of stands."""
    return [
        (works, beat, many)
        for works in small_works(seed, count)
        for beat in telling_beats(works)
        for many in range(len(works[3]) + 1)
    ]


def other_names(works):
    """The works with other names for its tasks, by which they would be sorted the other way about."""
    names = names_of(works)
    return renamed(works, dict(zip(sorted(names), ("zz", "y", "xx", "w", "vv", "u", "tt", "s"))))
