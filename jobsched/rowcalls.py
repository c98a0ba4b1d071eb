"""The calls on rows of once jobs or of kinds, which need no machine."""

from jobsched.kinds import Kind, common_round, demand_until, first_overload, response_of, run_by_ranks
from jobsched.oncejobs import OnceJob, done_times, greatest_lateness, tightest
from jobsched.refusals import NOT_AS_TOLD, are_within, is_within

FIRST_PLACE = 13

ONCE_RANGES = ((0, 60), (1, 20), (0, 200))
ONCE_COUNT_RANGE = (0, 12)
KIND_RANGES = ((1, 12), (1, 12), (1, 12))
RANKED_RANGES = ((1, 12), (1, 12), (1, 12), (0, 30))
KIND_COUNT_RANGE = (1, 6)
DEMAND_RANGES = ((0, 10000),)
RANKED_LENGTH_RANGES = ((0, 300),)


def in_groups(row, size):
    return [row[k:k + size] for k in range(0, len(row), size)]


def are_groups(row, ranges, count_range):
    if len(row) % len(ranges) != 0 or not is_within(len(row) // len(ranges), count_range):
        return False
    return all([are_within(group, ranges) for group in in_groups(row, len(ranges))])


def are_once_jobs(row):
    return are_groups(row, ONCE_RANGES, ONCE_COUNT_RANGE)


def are_kinds(row, ranges):
    if not are_groups(row, ranges, KIND_COUNT_RANGE):
        return False
    return all([group[2] <= group[0] for group in in_groups(row, len(ranges))])


def once_jobs(row):
    return [OnceJob(group) for group in in_groups(row, len(ONCE_RANGES))]


def kinds_of(row):
    return [Kind(group) for group in in_groups(row, len(KIND_RANGES))]


def once(numbers, row):
    if not are_once_jobs(row):
        return [NOT_AS_TOLD]
    jobs = once_jobs(row)
    done = done_times(jobs)
    lateness = greatest_lateness(jobs, done)
    return [1 if lateness <= 0 else 0, lateness] + done


def tight(numbers, row):
    if not are_once_jobs(row):
        return [NOT_AS_TOLD]
    found = tightest(once_jobs(row))
    if found is None:
        return [0]
    return [1] + found


def demand(numbers, row):
    if not are_within(numbers, DEMAND_RANGES) or not are_kinds(row, KIND_RANGES):
        return [NOT_AS_TOLD]
    return [demand_until(kinds_of(row), numbers[0])]


def again(numbers, row):
    if not are_kinds(row, KIND_RANGES):
        return [NOT_AS_TOLD]
    kinds = kinds_of(row)
    whole = common_round(kinds)
    found = first_overload(kinds, whole)
    if found is None:
        return [1, whole]
    return [0, whole] + found


def response(numbers, row):
    if not are_kinds(row, KIND_RANGES):
        return [NOT_AS_TOLD]
    kinds = kinds_of(row)
    told = []
    for place in range(len(kinds)):
        found = response_of(kinds, place)
        told.extend([0] if found is None else [1, found])
    return told


def ranked(numbers, row):
    if not are_within(numbers, RANKED_LENGTH_RANGES) or not are_kinds(row, RANKED_RANGES):
        return [NOT_AS_TOLD]
    groups = in_groups(row, len(RANKED_RANGES))
    kinds = [Kind(group) for group in groups]
    beginnings = [group[3] for group in groups]
    told = []
    for progress in run_by_ranks(kinds, beginnings, numbers[0]):
        told.extend([progress.done, progress.longest])
    return told


# By the call's place, from the first one here on.
ON_ROW = (once, tight, demand, again, response, ranked)


def answer_on_row(place, numbers, row):
    return ON_ROW[place - FIRST_PLACE](numbers, row)
