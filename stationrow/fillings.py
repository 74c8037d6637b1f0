"""Fillings: what a stand of a kind may take on within a beat, where some tasks are done."""

from stationrow.chains import ahead_of, group_of
from stationrow.checks import may_be_done
from stationrow.sets import number_of, tasks_of


def apart_from(works, task):
    """The other names of the apart pairs that have this one first."""
    # A pair is held at its first name alone: two that share a filling are both asked.
    return [other for word, one, other in works[2] if word == "apart" and one == task]


def rules_of(works):
    """For each task its own number, length and kinds, and the numbers of its group, all ahead and all apart."""
    rules = []
    for name, length, kinds in works[0]:
        own = number_of(works, (name,))
        group = number_of(works, group_of(works, name))
        ahead = number_of(works, ahead_of(works, name))
        apart = number_of(works, apart_from(works, name))
        rules.append((own, length, kinds, group, ahead, apart))
    return rules


def has_all(number, part):
    return number & part == part


def is_filling_number(rules, beat, kind, done, number):
    """Whether the tasks of a number are a filling; done is a number too."""
    load = 0
    for own, length, kinds, group, ahead, apart in rules:
        if has_all(number, own):
            if has_all(done, own) or not may_be_done(kinds, kind):
                return False
            if not has_all(number, group) or not has_all(number | done, ahead):
                return False
            if number & apart != 0:
                return False
            load = load + length
    return load <= beat


def filling_numbers(works, beat, kind, done):
    """The numbers of all fillings, rising."""
    rules = rules_of(works)
    done_number = number_of(works, done)
    last = number_of(works, [task[0] for task in works[0]])
    return [number for number in range(last + 1) if is_filling_number(rules, beat, kind, done_number, number)]


def greatest_numbers(numbers):
    """Those of rising numbers that no other one has all of, rising."""
    greatest = []
    # One that has all of another is the greater number, so from the last on it is met ahead of it.
    for number in reversed(numbers):
        if not any([has_all(other, number) for other in greatest]):
            greatest.append(number)
    return list(reversed(greatest))


def is_filling(works, beat, kind, done, tasks):
    """Whether some tasks are a filling for a done, a kind of stands and a beat."""
    return is_filling_number(rules_of(works), beat, kind, number_of(works, done), number_of(works, tasks))


def all_fillings(works, beat, kind, done):
    """All fillings, by their numbers."""
    return [tasks_of(works, number) for number in filling_numbers(works, beat, kind, done)]


def greatest_fillings(works, beat, kind, done):
    """The fillings that no other one has all of, by their numbers."""
    return [tasks_of(works, number) for number in greatest_numbers(filling_numbers(works, beat, kind, done))]
