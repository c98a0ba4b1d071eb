"""Who goes first: the order of ready jobs under each policy."""

from jobsched.jobs import READY

IN_TURN = 0
BY_URGENCY = 1
BY_SHARES = 2
BY_DEADLINES = 3
LEAST_LEFT = 4
BY_LEVELS = 5
POLICY_COUNT = 6


def aged_urgency(machine, job):
    if machine.age == 0:
        return job.urgency
    return job.urgency + job.waited // machine.age


# Of two ready jobs the one with the lesser rank goes first, so what is to be
# the greater stands there below 0.
def rank(machine, job):
    if machine.policy == IN_TURN:
        return (0 if machine.current == job.number else 1, job.turn)
    if machine.policy == BY_URGENCY:
        return (-aged_urgency(machine, job), job.turn)
    if machine.policy == BY_SHARES:
        return (job.pass_parts, job.turn)
    if machine.policy == BY_DEADLINES:
        return deadline_rank(job)
    if machine.policy == LEAST_LEFT:
        return (job.left, job.number)
    return (job.level, job.turn)


def deadline_rank(job):
    # Jobs without a deadline are alike among themselves, whenever they came.
    if job.deadline == 0:
        return (1, 0, job.number)
    return (0, job.comes + job.deadline, job.number)


def ready_jobs(machine):
    return [job for job in machine.jobs if job.stands == READY]


def first_ready(machine):
    return min(ready_jobs(machine), key=lambda job: rank(machine, job), default=None)


def ready_in_order(machine):
    return sorted(ready_jobs(machine), key=lambda job: rank(machine, job))


# How long a job may wait at most, or None where nothing is promised.
def wait_bound(machine, job):
    told = len(machine.jobs)
    if machine.policy == IN_TURN:
        return machine.slice_ticks * (told - 1)
    if machine.policy == BY_URGENCY and machine.age > 0:
        return machine.age * (11 - job.urgency) + told
    return None
