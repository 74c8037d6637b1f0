"""Some tasks as one number: the sum of 1, 2, 4 and so on for the tasks numbered 0, 1, 2 and so on."""


def number_of(works, tasks):
    """The number of some tasks, told in any order."""
    number = 0
    worth = 1
    for task in works[0]:
        if task[0] in tasks:
            number = number + worth
        worth = worth * 2
    return number


def tasks_of(works, number):
    """The tasks of a number, in their order."""
    tasks = []
    left = number
    for task in works[0]:
        if left % 2 == 1:
            tasks.append(task[0])
        left = left // 2
    return tuple(tasks)
