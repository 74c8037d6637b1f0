"""Two goods on one row: what a round of both takes."""


def mixed_task(task, other, mix):
    """The task with what it takes in a round as its length; other is its second length."""
    return (task[0], mix[0] * task[1] + mix[1] * other, task[2])


def mixed_works(works, others, mix):
    """The works with what each task takes in a round as its length."""
    tasks = tuple([mixed_task(task, other, mix) for task, other in zip(works[0], others)])
    return (tasks, works[1], works[2], works[3])


def round_beat(beat, mix):
    """The beat of a whole round."""
    return beat * (mix[0] + mix[1])
