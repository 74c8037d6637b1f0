"""Dealings: a tuple of tasks for each of some stands, what is at fault with one, and its loads."""

from stationrow.checks import may_be_done
from stationrow.texts import names_of


def load_of(works, tasks):
    """The lengths of some tasks together."""
    return sum([length for name, length, kinds in works[0] if name in tasks])


def loads_of(works, dealing):
    """Each stand's load, of a dealing that has each task just once."""
    return tuple([load_of(works, tasks) for tasks in dealing])


def texts_of(dealing):
    """All texts of a dealing, stand by stand."""
    texts = []
    for tasks in dealing:
        texts.extend(tasks)
    return texts


def stands_of(dealing):
    """A dict from each task of a dealing to its stand's number."""
    stands = {}
    for stand, tasks in enumerate(dealing):
        for task in tasks:
            stands[task] = stand
    return stands


def number_fault(works, dealing):
    """More stands than the row has."""
    if len(dealing) > len(works[3]):
        return ("stands", len(dealing))
    return None


def strange_fault(works, dealing):
    names = names_of(works[0])
    for text in texts_of(dealing):
        if text not in names:
            return ("strange", text)
    return None


def twice_fault(dealing):
    ahead = {}
    for task in texts_of(dealing):
        if task in ahead:
            return ("twice", task)
        ahead[task] = True
    return None


def lost_fault(works, dealing):
    stands = stands_of(dealing)
    for name in names_of(works[0]):
        if name not in stands:
            return ("lost", name)
    return None


def order_fault(works, dealing):
    stands = stands_of(dealing)
    for one, other in works[1]:
        if stands[one] > stands[other]:
            return ("order", one, other)
    return None


def pair_fault(works, dealing):
    stands = stands_of(dealing)
    for word, one, other in works[2]:
        if (stands[one] == stands[other]) != (word == "with"):
            return (word, one, other)
    return None


def kind_fault(works, dealing):
    kinds = dict([(task[0], task[2]) for task in works[0]])
    for stand, tasks in enumerate(dealing):
        for task in tasks:
            if not may_be_done(kinds[task], works[3][stand]):
                return ("kind", task, stand)
    return None


def beat_fault(works, beat, dealing):
    for stand, load in enumerate(loads_of(works, dealing)):
        if load > beat:
            return ("beat", stand)
    return None


def tasks_fault(works, dealing):
    """The first fault for which not each task stands just once, at a stand of the row, or None."""
    return (
        number_fault(works, dealing)
        or strange_fault(works, dealing)
        or twice_fault(dealing)
        or lost_fault(works, dealing)
    )


def fault_of(works, beat, dealing):
    """None, or the first fault of a dealing for a beat."""
    # Where a task stands nowhere, or at no stand of the row, the further faults can't even be looked for.
    return (
        tasks_fault(works, dealing)
        or order_fault(works, dealing)
        or pair_fault(works, dealing)
        or kind_fault(works, dealing)
        or beat_fault(works, beat, dealing)
    )
