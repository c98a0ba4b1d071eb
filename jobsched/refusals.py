"""The refusals' numbers, and whether numbers are within their ranges."""

NOT_BEGUN = -1
NOT_AS_TOLD = -2
TOO_MANY_JOBS = -3
COMES_TOO_EARLY = -4
TOO_LATE = -5
OVER_ALREADY = -6


def is_within(number, bounds):
    return bounds[0] <= number <= bounds[1]


def are_within(numbers, ranges):
    for number, bounds in zip(numbers, ranges, strict=True):
        if not is_within(number, bounds):
            return False
    return True
