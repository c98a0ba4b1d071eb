"""The machine, and what one tick does."""

from jobsched.jobs import ASLEEP, COMING, DONE, PASS_UNIT, READY, is_over
from jobsched.policies import BY_LEVELS, BY_SHARES, BY_URGENCY, IN_TURN, first_ready, ready_jobs

NOBODY = -1

# How many ticks a job may use on each level before it falls to the next one.
LEVEL_TICKS = (1, 2, 4, 8)
LAST_LEVEL = 3


class Machine:
    def __init__(self, policy, slice_ticks, age, boost):
        self.policy = policy
        self.slice_ticks = slice_ticks
        self.age = age
        self.boost = boost
        self.now = 0
        self.floor_parts = 0
        self.turns = 0
        self.current = None
        self.jobs = []
        self.runners = []


def tick(machine):
    wake_sleepers(machine)
    let_in_coming(machine)
    lift_levels(machine)
    runner = first_ready(machine)
    if runner is None:
        machine.current = None
        machine.runners.append(NOBODY)
    else:
        let_others_wait(machine, runner)
        run_one_tick(machine, runner)
        settle(machine, runner)
        machine.runners.append(runner.number)
    machine.now += 1


def all_over(machine):
    return all([is_over(job) for job in machine.jobs])


# Answers how many ticks went by.
def run_until_over(machine, most):
    gone = 0
    while gone < most and not all_over(machine):
        tick(machine)
        gone += 1
    return gone


def give_turn(machine, job):
    job.turn = machine.turns
    machine.turns += 1


def make_ready(machine, job):
    job.stands = READY
    job.left = job.parts[job.part]
    job.waited = 0
    job.used = 0
    give_turn(machine, job)
    job.pass_parts = max(job.pass_parts, machine.floor_parts)


def sleepers_in_order(machine):
    # A job gets a turn when it falls asleep, so turns tell who did so earlier.
    asleep = [job for job in machine.jobs if job.stands == ASLEEP]
    return sorted(asleep, key=lambda job: (job.wakes, job.turn))


def wake_sleepers(machine):
    for job in sleepers_in_order(machine):
        if job.wakes <= machine.now:
            job.part += 1
            make_ready(machine, job)


def let_in_coming(machine):
    for job in machine.jobs:
        if job.stands == COMING and job.comes <= machine.now:
            make_ready(machine, job)


def lift_levels(machine):
    if machine.policy != BY_LEVELS or machine.boost == 0:
        return
    if machine.now == 0 or machine.now % machine.boost != 0:
        return
    for job in machine.jobs:
        job.level = 0
        job.used = 0


def let_others_wait(machine, runner):
    for job in ready_jobs(machine):
        if job.number != runner.number:
            job.waited += 1
            job.longest_wait = max(job.longest_wait, job.waited)


def run_one_tick(machine, job):
    machine.floor_parts = max(machine.floor_parts, job.pass_parts)
    job.left -= 1
    job.ran += 1
    job.waited = 0
    job.used += 1
    job.pass_parts += PASS_UNIT // job.shares
    if job.left == 0:
        begin_next_part(machine, job)


def begin_next_part(machine, job):
    if job.part + 1 < len(job.parts):
        job.part += 1
    elif job.rounds_behind + 1 < job.rounds:
        job.part = 0
        job.rounds_behind += 1
    else:
        job.stands = DONE
        job.ended = machine.now + 1
        return
    length = job.parts[job.part]
    if length > 0:
        job.left = length
    else:
        fall_asleep(machine, job, -length)


def fall_asleep(machine, job, nap):
    job.stands = ASLEEP
    job.wakes = machine.now + 1 + nap
    give_turn(machine, job)


def settle(machine, job):
    # Only a policy that goes in turn ever keeps a current job.
    machine.current = None
    if job.stands != READY:
        return
    if machine.policy == IN_TURN:
        settle_in_turn(machine, job)
    elif machine.policy == BY_URGENCY or machine.policy == BY_SHARES:
        give_turn(machine, job)
    elif machine.policy == BY_LEVELS:
        settle_by_levels(machine, job)


def settle_in_turn(machine, job):
    if job.used >= machine.slice_ticks:
        job.used = 0
        give_turn(machine, job)
    else:
        machine.current = job.number


def settle_by_levels(machine, job):
    if job.used >= LEVEL_TICKS[job.level]:
        job.used = 0
        job.level = min(job.level + 1, LAST_LEVEL)
        give_turn(machine, job)
