"""Chains of orders and with pairs: what must share a stand, and what must be done ahead of a task or behind it."""


def links_of(works):
    """The single steps of chains, as pairs of names: the orders, and the with pairs either way about."""
    links = list(works[1])
    for word, one, other in works[2]:
        if word == "with":
            links.append((one, other))
            links.append((other, one))
    return links


def reached(links, start):
    """A dict of all names that links lead to from a start, the start among them."""
    found = {start: True}
    grown = True
    while grown:
        grown = False
        for one, other in links:
            if one in found and other not in found:
                found[other] = True
                grown = True
    return found


def led_to(works, task):
    return reached(links_of(works), task)


def led_from(works, task):
    return reached([(other, one) for one, other in links_of(works)], task)


def in_both(works, found, other):
    """The tasks, in their order, that are in both dicts."""
    return tuple([task[0] for task in works[0] if task[0] in found and task[0] in other])


def in_first_alone(works, found, other):
    """The tasks, in their order, that are in the first dict and not in the other one."""
    return tuple([task[0] for task in works[0] if task[0] in found and task[0] not in other])


def group_of(works, task):
    """The group of a task: all that share its stand, and itself."""
    return in_both(works, led_to(works, task), led_from(works, task))


def groups_of(works):
    """All groups, by their first tasks."""
    groups = []
    for task in works[0]:
        group = group_of(works, task[0])
        # Each task of a group has the same one; it is told at its first task, so just once.
        if group[0] == task[0]:
            groups.append(group)
    return tuple(groups)


def ahead_of(works, task):
    """What must be done ahead of a task, in an earlier stand or the same."""
    # What chains lead to as well is of the task's own group, the task itself among it.
    return in_first_alone(works, led_from(works, task), led_to(works, task))


def behind_of(works, task):
    """What must be done behind a task, in a later stand or the same."""
    return in_first_alone(works, led_to(works, task), led_from(works, task))
