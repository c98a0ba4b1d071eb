"""The calls on one machine: what each refuses, does and answers."""

from jobsched.comparison import outcomes
from jobsched.jobs import KILLED, Job, is_over, pass_in_lowest_terms
from jobsched.machine import NOBODY, Machine, all_over, run_until_over, sleepers_in_order, tick
from jobsched.policies import ready_in_order, wait_bound
from jobsched.refusals import (COMES_TOO_EARLY, NOT_AS_TOLD, NOT_BEGUN, OVER_ALREADY, TOO_LATE, TOO_MANY_JOBS,
                               are_within, is_within)
from jobsched.rowcalls import FIRST_PLACE, answer_on_row

BEGIN = 0

MOST_JOBS = 16
LAST_TIME = 3000

BEGIN_RANGES = ((0, 5), (1, 20), (0, 20), (0, 100))
JOB_RANGES = ((0, 500), (0, 9), (1, 100), (0, 1000), (1, 10))
TICKS_RANGES = ((1, 200),)
UNTIL_OVER_RANGES = ((1, 1000),)
URGENCY_RANGE = (0, 9)
SHARES_RANGE = (1, 100)
TRACE_LENGTH_RANGE = (0, 200)
PARTS_COUNT_RANGE = (1, 12)
PART_RANGE = (-100, 50)
COMPARE_RANGES = ((1, 400),)


# A line's one machine: none until it is begun.
class Line:
    def __init__(self):
        self.machine = None


def are_parts(row):
    if not is_within(len(row), PARTS_COUNT_RANGE):
        return False
    for part in row:
        if part == 0 or not is_within(part, PART_RANGE):
            return False
    for k in range(1, len(row)):
        if row[k - 1] < 0 and row[k] < 0:
            return False
    return row[0] > 0 and row[-1] > 0


def job_numbers(machine):
    return (0, len(machine.jobs) - 1)


def stretches(runners):
    told = []
    for k, runner in enumerate(runners):
        if k > 0 and runner == runners[k - 1]:
            told[-1] += 1
        else:
            told.extend([runner, 1])
    return [len(told) // 2] + told


def begin(line, numbers):
    if not are_within(numbers, BEGIN_RANGES):
        return [NOT_AS_TOLD]
    line.machine = Machine(numbers[0], numbers[1], numbers[2], numbers[3])
    return [0]


def tell_job(machine, numbers, row):
    if not are_within(numbers, JOB_RANGES) or not are_parts(row):
        return [NOT_AS_TOLD]
    number = len(machine.jobs)
    if number >= MOST_JOBS:
        return [TOO_MANY_JOBS]
    if numbers[0] < machine.now:
        return [COMES_TOO_EARLY]
    machine.jobs.append(Job(number, numbers, row))
    return [number]


def ticks(machine, numbers, row):
    if not are_within(numbers, TICKS_RANGES):
        return [NOT_AS_TOLD]
    if machine.now + numbers[0] > LAST_TIME:
        return [TOO_LATE]
    before = machine.now
    for k in range(numbers[0]):
        tick(machine)
    return stretches(machine.runners[before:])


def until_over(machine, numbers, row):
    if not are_within(numbers, UNTIL_OVER_RANGES):
        return [NOT_AS_TOLD]
    if machine.now + numbers[0] > LAST_TIME:
        return [TOO_LATE]
    gone = run_until_over(machine, numbers[0])
    return [1 if all_over(machine) else 0, gone]


def kill(machine, numbers, row):
    if not are_within(numbers, (job_numbers(machine),)):
        return [NOT_AS_TOLD]
    job = machine.jobs[numbers[0]]
    if is_over(job):
        return [OVER_ALREADY]
    job.stands = KILLED
    job.ended = machine.now
    if machine.current == job.number:
        machine.current = None
    return [0]


def change(machine, numbers, row):
    if not are_within(numbers, (job_numbers(machine), URGENCY_RANGE, SHARES_RANGE)):
        return [NOT_AS_TOLD]
    job = machine.jobs[numbers[0]]
    if is_over(job):
        return [OVER_ALREADY]
    job.urgency = numbers[1]
    job.shares = numbers[2]
    job.waited = 0
    return [0]


def state(machine, numbers, row):
    if not are_within(numbers, (job_numbers(machine),)):
        return [NOT_AS_TOLD]
    job = machine.jobs[numbers[0]]
    told = [job.stands, job.part, job.left, job.rounds_behind, job.wakes, job.waited, job.used, job.level]
    told.extend(pass_in_lowest_terms(job.pass_parts))
    told.extend([job.ran, job.ended, job.longest_wait])
    return told


def order(machine, numbers, row):
    ready = ready_in_order(machine)
    return [len(ready)] + [job.number for job in ready]


def sleepers(machine, numbers, row):
    asleep = sleepers_in_order(machine)
    told = [len(asleep)]
    for job in asleep:
        told.extend([job.number, job.wakes])
    return told


def trace(machine, numbers, row):
    if not are_within(numbers, ((0, machine.now), TRACE_LENGTH_RANGE)):
        return [NOT_AS_TOLD]
    return stretches(machine.runners[numbers[0]:numbers[0] + numbers[1]])


def totals(machine, numbers, row):
    over = [job for job in machine.jobs if is_over(job)]
    told = [machine.now, len(machine.jobs), len(over), machine.runners.count(NOBODY)]
    told.append(stretches(machine.runners)[0])
    told.extend(pass_in_lowest_terms(machine.floor_parts))
    return told


def compare(machine, numbers, row):
    if not are_within(numbers, COMPARE_RANGES):
        return [NOT_AS_TOLD]
    return outcomes(machine, numbers[0])


def bound(machine, numbers, row):
    if not are_within(numbers, (job_numbers(machine),)):
        return [NOT_AS_TOLD]
    found = wait_bound(machine, machine.jobs[numbers[0]])
    if found is None:
        return [0]
    return [1, found]


# By the call's place; begin is apart, for it alone makes the machine.
ON_MACHINE = (None, tell_job, ticks, until_over, kill, change, state, order, sleepers, trace, totals, compare, bound)


def answer(line, place, numbers, row):
    if place == BEGIN:
        return begin(line, numbers)
    if place >= FIRST_PLACE:
        return answer_on_row(place, numbers, row)
    if line.machine is None:
        return [NOT_BEGUN]
    return ON_MACHINE[place](line.machine, numbers, row)
