"""Lags: how far the stands fall behind where two goods follow one another on the row."""

from stationrow.dealings import loads_of
from stationrow.errors import TooLong
from stationrow.mixes import mixed_works, round_beat


def check_round(works, others, beat, dealing, mix):
    """Refuse the first stand whose load of a round is above the round's beat."""
    most = round_beat(beat, mix)
    for tasks, load in zip(dealing, loads_of(mixed_works(works, others, mix), dealing)):
        if load > most:
            raise TooLong(tasks, load)


def loads_by_word(works, others, dealing):
    """A dict from each good's word to the stands' loads for it."""
    return {"one": loads_of(works, dealing), "other": loads_of(mixed_works(works, others, (0, 1)), dealing)}


def stand_lag(beat, loads):
    """The greatest lag of a stand, where goods of these loads come in each round."""
    greatest = 0
    lag = 0
    # A round fits the round's beat, so a lag that grew over more than one is no less without it: two tell all.
    for load in loads + loads:
        lag = max(0, lag + load - beat)
        greatest = max(greatest, lag)
    return greatest


def loads_at(loads, turns, stand):
    """A stand's loads in a round, good by good."""
    return [loads[word][stand] for word in turns]


def row_lag(beat, loads, turns):
    """The greatest lag of all stands; loads is a dict as loads_by_word tells it."""
    return max([stand_lag(beat, loads_at(loads, turns, stand)) for stand in range(len(loads["one"]))])


def greatest_lag(works, others, beat, dealing, turns):
    """The greatest lag that any stand comes to, however many rounds of these turns follow."""
    check_round(works, others, beat, dealing, (turns.count("one"), turns.count("other")))
    return row_lag(beat, loads_by_word(works, others, dealing), turns)


def all_turns(one, other):
    """All turns with so many of each word."""
    if one == 0 and other == 0:
        return [()]
    turns = []
    if one > 0:
        turns.extend([("one",) + behind for behind in all_turns(one - 1, other)])
    if other > 0:
        turns.extend([("other",) + behind for behind in all_turns(one, other - 1)])
    return turns


def least_lag(works, others, beat, dealing, mix):
    """The least greatest lag of all turns of a mix, and such turns."""
    check_round(works, others, beat, dealing, mix)
    loads = loads_by_word(works, others, dealing)
    return min([(row_lag(beat, loads, turns), turns) for turns in all_turns(mix[0], mix[1])])
