"""A job: what it was told, and how it stands."""

from jobsched.divisors import greatest_divisor

COMING = 0
READY = 1
ASLEEP = 2
DONE = 3
KILLED = 4

# Passes are kept as whole numbers of this unit's parts: it is the least
# number that all shares from 1 to 100 divide, so every pass is exact and two
# passes are compared as plain numbers.
PASS_UNIT = 69720375229712477164533808935312303556800


class Job:
    def __init__(self, number, told, parts):
        self.number = number
        self.comes = told[0]
        self.urgency = told[1]
        self.shares = told[2]
        self.deadline = told[3]
        self.rounds = told[4]
        self.parts = list(parts)
        self.stands = COMING
        self.part = 0
        self.left = 0
        self.rounds_behind = 0
        self.wakes = 0
        self.turn = 0
        self.waited = 0
        self.used = 0
        self.level = 0
        self.pass_parts = 0
        self.ran = 0
        self.ended = 0
        self.longest_wait = 0


def is_over(job):
    return job.stands == DONE or job.stands == KILLED


def pass_in_lowest_terms(pass_parts):
    divisor = greatest_divisor(pass_parts, PASS_UNIT)
    return [pass_parts // divisor, PASS_UNIT // divisor]
