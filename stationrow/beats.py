"""The least beats: within which there is a dealing to so many stands, and within none that is less."""

from stationrow.dealt import dealing_to


def loads_rising(works):
    """The lengths of all sets of tasks together, rising, none twice."""
    loads = [0]
    for name, length, kinds in works[0]:
        loads = loads + [load + length for load in loads]
    return sorted(set(loads))


def least_beat(works, many):
    """The least beat for so many stands, or None where there is no dealing to them within any."""
    # The greatest load of the least beat's dealing is this beat itself, so no other number has to be tried.
    loads = loads_rising(works)
    if dealing_to(works, loads[-1], many) is None:
        return None
    low = 0
    high = len(loads) - 1
    while low < high:
        middle = (low + high) // 2
        if dealing_to(works, loads[middle], many) is None:
            low = middle + 1
        else:
            high = middle
    return loads[low]


def beats_of(works):
    """The least beats for one stand, two and so on to all of the row."""
    return tuple([least_beat(works, many) for many in range(1, len(works[3]) + 1)])
