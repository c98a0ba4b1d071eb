"""Calls as lists of numbers, and answers taken apart call by call."""

from jobsched.scheduler import answers


def begin(policy, slice_ticks=1, age=0, boost=0):
    return [0, policy, slice_ticks, age, boost]


def job(parts, comes=0, urgency=0, shares=1, deadline=0, rounds=1):
    return [1, comes, urgency, shares, deadline, rounds, len(parts)] + list(parts)


def ticks(n):
    return [2, n]


def until_over(n):
    return [3, n]


def kill(j):
    return [4, j]


def change(j, urgency, shares):
    return [5, j, urgency, shares]


def state(j):
    return [6, j]


ORDER = [7]
SLEEPERS = [8]


def trace(a, n):
    return [9, a, n]


TOTALS = [10]


def compare(n):
    return [11, n]


def bound(j):
    return [12, j]


# The rows of these are flat: threes or fours, one behind another.

def once(row):
    return [13, len(row)] + list(row)


def tight(row):
    return [14, len(row)] + list(row)


def demand(row, t):
    return [15, t, len(row)] + list(row)


def again(row):
    return [16, len(row)] + list(row)


def response(row):
    return [17, len(row)] + list(row)


def ranked(row, n):
    return [18, n, len(row)] + list(row)


STATE_NAMES = ("stands", "part", "left", "behind", "wakes", "waited", "used", "level",
               "pass_top", "pass_bottom", "ran", "ended", "longest")


def named(told):
    """A state's thirteen numbers, by name."""
    assert len(told) == len(STATE_NAMES), told
    return dict(zip(STATE_NAMES, told))


def apart(given):
    """One list of numbers for each call."""
    found = []
    at = 0
    while at < len(given):
        count = given[at]
        assert count >= 1 and at + 1 + count <= len(given), given
        found.append(given[at + 1:at + 1 + count])
        at += 1 + count
    return found


def run(*calls):
    """What each of the calls answers."""
    found = apart(answers([number for call in calls for number in call]))
    assert len(found) == len(calls), (calls, found)
    return found


def last(*calls):
    return run(*calls)[-1]


def told_stretches(*pairs):
    """The stretches' answer for (job, ticks) pairs."""
    return [len(pairs)] + [number for pair in pairs for number in pair]
