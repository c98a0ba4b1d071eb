"""Kinds of jobs that come again: what they ask, and how long each takes by ranks."""

from jobsched.divisors import divided_up, least_multiple


class Kind:
    def __init__(self, told):
        self.period = told[0]
        self.need = told[1]
        self.due = told[2]


# How far a kind has got. What came and is not done needs no list: how many
# comings are done tells when the oldest of the others came.
class Progress:
    def __init__(self, kind, beginning):
        self.kind = kind
        self.beginning = beginning
        self.done = 0
        self.left = kind.need
        self.longest = 0


def common_round(kinds):
    found = 1
    for kind in kinds:
        found = least_multiple(found, kind.period)
    return found


def due_count(kind, until):
    if until < kind.due:
        return 0
    return (until - kind.due) // kind.period + 1


def demand_until(kinds, until):
    return sum([kind.need * due_count(kind, until) for kind in kinds])


def needs_by_due_time(kinds, last):
    needs = [0] * (last + 1)
    for kind in kinds:
        for due in range(kind.due, last + 1, kind.period):
            needs[due] += kind.need
    return needs


# The first time up to the last one at which more is asked than there is time.
def first_overload(kinds, last):
    demand = 0
    for now, need in enumerate(needs_by_due_time(kinds, last)):
        demand += need
        if demand > now:
            return [now, demand]
    return None


def response_of(kinds, place):
    own = kinds[place]
    taken = own.need
    while True:
        asked = own.need + sum([kind.need * divided_up(taken, kind.period) for kind in kinds[:place]])
        if asked > own.due:
            return None
        if asked == taken:
            return taken
        taken = asked


def oldest_coming(progress):
    return progress.beginning + progress.done * progress.kind.period


def run_one_tick(progress, now):
    progress.left -= 1
    if progress.left == 0:
        progress.longest = max(progress.longest, now + 1 - oldest_coming(progress))
        progress.done += 1
        progress.left = progress.kind.need


def run_by_ranks(kinds, beginnings, count):
    ranks = [Progress(kind, beginning) for kind, beginning in zip(kinds, beginnings, strict=True)]
    for now in range(count):
        for progress in ranks:
            if oldest_coming(progress) <= now:
                run_one_tick(progress, now)
                break
    return ranks
