"""Jobs done once: when each is done by deadlines, and where too much is asked."""


class OnceJob:
    def __init__(self, told):
        self.may_run_from = told[0]
        self.need = told[1]
        self.due = told[2]


def first_due(jobs, left, now):
    waiting = [k for k, job in enumerate(jobs) if left[k] > 0 and job.may_run_from <= now]
    return min(waiting, key=lambda k: (jobs[k].due, k), default=None)


def done_times(jobs):
    left = [job.need for job in jobs]
    done = [0 for job in jobs]
    now = 0
    while any(left):
        chosen = first_due(jobs, left, now)
        now += 1
        if chosen is not None:
            left[chosen] -= 1
            # Each tick writes over the one before, so the last one stays.
            done[chosen] = now
    return done


def greatest_lateness(jobs, done):
    return max([ended - job.due for job, ended in zip(jobs, done, strict=True)], default=0)


def must_be_done(jobs, a, b):
    return sum([job.need for job in jobs if job.may_run_from >= a and job.due <= b])


# The first a and b, by b and then by a, between which too much is asked.
def tightest(jobs):
    for b in sorted([job.due for job in jobs]):
        for a in sorted([job.may_run_from for job in jobs]):
            asked = must_be_done(jobs, a, b)
            if asked > max(b - a, 0):
                return [a, b, asked]
    return None
