"""Tasks dealt to stands: a dealing to just so many, and to as few as can be."""

from stationrow.chains import groups_of
from stationrow.dealings import load_of
from stationrow.errors import NoRoom, TooLong
from stationrow.walks import Walk


def ways_behind(walk, stand, ways):
    """The ways with one more stand: a dict from each done to the fillings of the first way that leads to it."""
    behind = {}
    for done, fillings in ways.items():
        # Where more is done, no less can be dealt behind it: so the greatest fillings are enough.
        for filling in walk.greatest_at(stand, done):
            behind.setdefault(done + filling, fillings + (filling,))
    return behind


def dealing_to(works, beat, many):
    """A dealing without a fault to just so many stands, or None where there is none."""
    walk = Walk(works, beat)
    ways = {0: ()}
    for stand in range(many):
        ways = ways_behind(walk, stand, ways)
    if walk.whole not in ways:
        return None
    return walk.dealing_of(ways[walk.whole])


def check_groups(works, beat):
    """Refuse the first group that is above the beat."""
    for group in groups_of(works):
        length = load_of(works, group)
        if length > beat:
            raise TooLong(group, length)


def fewest_stands(works, beat):
    """The fewest stands within a beat and a dealing to so many, or the refusal of what can't be dealt."""
    check_groups(works, beat)
    for many in range(len(works[3]) + 1):
        dealing = dealing_to(works, beat, many)
        if dealing is not None:
            return (many, dealing)
    raise NoRoom()
