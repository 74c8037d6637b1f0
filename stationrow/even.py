"""The most even dealing: the one with the least sum of its loads' squares, the unevenness."""

from stationrow.sets import tasks_of
from stationrow.walks import Walk


def evens_behind(walk, stand, evens):
    """With one more stand, a dict from each done to its least unevenness and the fillings that have it."""
    behind = {}
    for done, even in evens.items():
        # A lesser filling may be the more even one, so here the greatest ones are not enough.
        for filling in walk.fillings_at(stand, done):
            least = even[0] + walk.load_at(filling) ** 2
            onward = done + filling
            if onward not in behind or least < behind[onward][0]:
                behind[onward] = (least, even[1] + (filling,))
    return behind


def evens_by_stands(walk, many):
    """Such a dict for no stands, for one and so on to so many."""
    steps = [{0: (0, ())}]
    for stand in range(many):
        steps.append(evens_behind(walk, stand, steps[stand]))
    return steps


def even_table(works, beat, many):
    """The least unevenness of each done at each number of stands, sorted by stands, then by the done's number."""
    table = []
    for stands, evens in enumerate(evens_by_stands(Walk(works, beat), many)):
        table.extend([(stands, tasks_of(works, done), evens[done][0]) for done in sorted(evens)])
    return table


def most_even(works, beat, many):
    """The least unevenness of a dealing to so many stands and such a dealing, or None where there is none."""
    walk = Walk(works, beat)
    evens = evens_by_stands(walk, many)[-1]
    if walk.whole not in evens:
        return None
    even = evens[walk.whole]
    return (even[0], walk.dealing_of(even[1]))
