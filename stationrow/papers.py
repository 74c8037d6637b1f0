"""Papers: cases which show that so many stands won't do within a beat."""

from stationrow.dealt import dealing_to
from stationrow.fillings import has_all
from stationrow.sets import number_of, tasks_of
from stationrow.walks import Walk


def length_left(walk, done):
    """The lengths together of all tasks that are not done."""
    return walk.load_at(walk.whole - number_of(walk.works, done))


def dones_behind(walk, stand, done):
    """What is done behind each greatest filling of a stand, in their order."""
    number = number_of(walk.works, done)
    return tuple([tasks_of(walk.works, number + filling) for filling in walk.greatest_at(stand, number)])


def is_done(walk, done):
    """Whether tasks stand in their order, and each with its whole group and all ahead of it."""
    number = number_of(walk.works, done)
    if tasks_of(walk.works, number) != done:
        return False
    for own, length, kinds, group, ahead, apart in walk.rules:
        if has_all(number, own) and not has_all(number, group | ahead):
            return False
    return True


def is_left(walk, left, done, length):
    """Whether this is the length that is not done, and above the beat times the stands that are left."""
    return length == length_left(walk, done) and length > walk.beat * left


def is_less(cases, stands, done, other):
    """Whether there is a case of the same stands with the other done, which has all of this one and more."""
    return (stands, other) in cases and other != done and all([task in other for task in done])


def is_ways(walk, cases, stands, done, others):
    """Whether the others are those behind the next stand, and each of them has a case."""
    if others != dones_behind(walk, stands, done):
        return False
    return all([(stands + 1, other) in cases for other in others])


def is_reason(walk, many, cases, stands, done, reason):
    if reason[0] == "left":
        return is_left(walk, many - stands, done, reason[1])
    if reason[0] == "less":
        return is_less(cases, stands, done, reason[1])
    return stands < many and is_ways(walk, cases, stands, done, reason[1])


def are_sorted(works, paper):
    """Whether cases are sorted by their stands, then by the number of their done, no two with the same of both."""
    places = [(stands, number_of(works, done)) for stands, done, reason in paper]
    return all([one < other for one, other in zip(places, places[1:])])


def is_paper(works, beat, many, paper):
    """Whether a paper is a right one."""
    walk = Walk(works, beat)
    cases = dict([((stands, done), True) for stands, done, reason in paper])
    if (0, ()) not in cases or not are_sorted(works, paper):
        return False
    for stands, done, reason in paper:
        if not 0 <= stands <= many or not is_done(walk, done):
            return False
        if not is_reason(walk, many, cases, stands, done, reason):
            return False
    return True


def reason_at(walk, many, stands, done):
    """The reason why from a done, with so many stands filled, no dealing is there."""
    length = length_left(walk, done)
    if length > walk.beat * (many - stands):
        return ("left", length)
    return ("ways", dones_behind(walk, stands, done))


def cases_of(walk, many, stands, dones):
    """The cases of dones at the same stands, by their numbers."""
    rising = sorted(dones, key=lambda done: number_of(walk.works, done))
    return [(stands, done, reason_at(walk, many, stands, done)) for done in rising]


def dones_wanted(cases):
    """A dict of the dones for which the cases want one with one stand more."""
    wanted = {}
    for stands, done, reason in cases:
        if reason[0] == "ways":
            for other in reason[1]:
                wanted[other] = True
    return wanted


def paper_for(works, beat, many):
    """A right paper where there is no dealing to so many stands, else None."""
    if dealing_to(works, beat, many) is not None:
        return None
    walk = Walk(works, beat)
    paper = []
    dones = {(): True}
    for stands in range(many + 1):
        cases = cases_of(walk, many, stands, dones)
        paper.extend(cases)
        dones = dones_wanted(cases)
    return tuple(paper)
