"""The check of a works: what stands against any dealing of it, whatever the beat."""

from stationrow.chains import groups_of, reached
from stationrow.errors import NoStand, Ring, Torn


def steps_on_rings(orders):
    """A dict from each task on a ring of orders to one behind it on a ring."""
    steps = {}
    for one, other in orders:
        if one in reached(orders, other):
            steps[one] = other
    return steps


def ring_from(steps, start):
    """The ring into which the steps lead from a start, without the way to it."""
    walked = []
    task = start
    # A step leads to a task that is on a ring itself, so the walk goes on until one comes again.
    while task not in walked:
        walked.append(task)
        task = steps[task]
    return tuple(walked[walked.index(task):])


def check_rings(works):
    """Refuse orders that lead from a task back to it."""
    steps = steps_on_rings(works[1])
    if len(steps) > 0:
        raise Ring(ring_from(steps, list(steps)[0]))


def share_group(groups, one, other):
    return any([one in group and other in group for group in groups])


def check_torn(works, groups):
    """Refuse the first apart pair that has both in one group."""
    for word, one, other in works[2]:
        if word == "apart" and share_group(groups, one, other):
            raise Torn(one, other)


def may_be_done(kinds, kind):
    """Whether a task with these kinds may be done at a stand of this kind."""
    return len(kinds) == 0 or kind in kinds


def may_all_be_done(works, group, kind):
    return all([may_be_done(task[2], kind) for task in works[0] if task[0] in group])


def check_stands(works, groups):
    """Refuse the first group for which the row has no kind."""
    for group in groups:
        if not any([may_all_be_done(works, group, kind) for kind in works[3]]):
            raise NoStand(group)


def check_works(works):
    """None, or the refusal of a works that can't be dealt within any beat."""
    check_rings(works)
    groups = groups_of(works)
    check_torn(works, groups)
    check_stands(works, groups)
