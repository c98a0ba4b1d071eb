"""Refusals: their ranges, their order, and that they change nothing."""

import unittest

from tests.helper import (ORDER, SLEEPERS, TOTALS, again, begin, bound, change, compare, demand, job, kill, last, once,
                          ranked, response, run, state, ticks, tight, trace, until_over)

LEAST = -9223372036854775808
GREATEST = 9223372036854775807

# A machine at time 7: job 0 is done, 1 killed, 2 and 3 ready, 4 asleep, 5 coming.
BEGUN = [begin(0, slice_ticks=2, age=1), job([1]), job([9]), job([9], shares=3), job([9], shares=7),
         job([1, -30, 2]), job([2], comes=40), kill(1), ticks(7)]
JOBS = 6
NOW = 7

ASK_ALL = [state(j) for j in range(JOBS)] + [ORDER, SLEEPERS, trace(0, 200), TOTALS, compare(60), bound(2)]

# For each call: one that is not refused, and the range of each of its numbers.
RANGES = {
    "begin": ([0, 0, 1, 0, 0], [(0, 5), (1, 20), (0, 20), (0, 100)]),
    "job": ([1, 50, 0, 1, 0, 1, 1, 1], [(NOW, 500), (0, 9), (1, 100), (0, 1000), (1, 10)]),
    "ticks": ([2, 1], [(1, 200)]),
    "untilOver": ([3, 1], [(1, 1000)]),
    "kill": ([4, 2], [(2, JOBS - 1)]),
    "change": ([5, 2, 0, 1], [(2, JOBS - 1), (0, 9), (1, 100)]),
    "state": ([6, 0], [(0, JOBS - 1)]),
    "trace": ([9, 0, 0], [(0, NOW), (0, 200)]),
    "compare": ([11, 1], [(1, 400)]),
    "bound": ([12, 0], [(0, JOBS - 1)]),
    "demand": ([15, 0, 3, 1, 1, 1], [(0, 10000)]),
    "ranked": ([18, 0, 4, 1, 1, 1, 0], [(0, 300)]),
}
# These are within a call's range, and refused as its own.
OWN_BELOW = {("job", 0): (-4, 0), ("kill", 0): (-6, 0), ("change", 0): (-6, 0)}

WRONG_PARTS = ([], [1] * 13, [1] * 40, [0], [1, 0, 1], [51], [1, 51, 1], [1, -101, 1], [-1, 1], [1, -1], [-5],
               [1, -1, -1, 1], [1, -100, -100, 1], [1, 1, -2, -3, 1], [GREATEST], [1, LEAST, 1], [1, -1, 1, -1],
               [1, -1] * 6 + [1])

ONCE_RANGES = [(0, 60), (1, 20), (0, 200)]
# The due of a kind is at most its period, here 12.
KIND_RANGES = [(12, 12), (1, 12), (1, 12)]
# For each call with a row of threes or fours: how it is made of a row, one group that is as told, the range of each
# number in it, and how many groups there may be.
ROWS = {
    "once": (once, [5, 2, 9], ONCE_RANGES, (0, 12)),
    "tight": (tight, [5, 2, 9], ONCE_RANGES, (0, 12)),
    "demand": (lambda row: demand(row, 20), [12, 1, 5], KIND_RANGES, (1, 6)),
    "again": (again, [12, 1, 5], KIND_RANGES, (1, 6)),
    "response": (response, [12, 1, 5], KIND_RANGES, (1, 6)),
    "ranked": (lambda row: ranked(row, 20), [12, 1, 5, 0], KIND_RANGES + [(0, 30)], (1, 6)),
}


def wrong_rows(group, ranges, counts):
    """Rows that aren't as told, for a call with such groups."""
    size, (least, most) = len(group), counts
    found = [group * (most + 1), (group * 40)[:40], group * 2 + group[:1], group[:size - 1], group[:1],
             (group * most)[:-1], group * most + group[:1]]
    if least > 0:
        found.append([])
    for place, (low, high) in enumerate(ranges):
        for number in (low - 1 if low < high else 0, high + 1, LEAST, GREATEST):
            wrong = group[:place] + [number] + group[place + 1:]
            found += [wrong, wrong + group, group + wrong, group * (most - 1) + wrong]
    return found


def with_number(call, place, number):
    return call[:place + 1] + [number] + call[place + 2:]


class Ranges(unittest.TestCase):
    def answered(self, call):
        return last(*BEGUN, call)

    def test_least_and_greatest_are_taken(self):
        for name, (call, ranges) in RANGES.items():
            for place, bounds in enumerate(ranges):
                for number in bounds:
                    told = self.answered(with_number(call, place, number))
                    self.assertGreaterEqual(told[0], 0, (name, place, number))

    def test_one_beyond_and_far_beyond_are_refused(self):
        for name, (call, ranges) in RANGES.items():
            for place, (least, greatest) in enumerate(ranges):
                if (name, place) in OWN_BELOW:
                    least = OWN_BELOW[name, place][1]
                for number in (least - 1, greatest + 1, LEAST, GREATEST):
                    told = self.answered(with_number(call, place, number))
                    self.assertEqual(told, [-2], (name, place, number))

    def test_in_range_but_refused_as_its_own(self):
        for (name, place), (refusal, number) in OWN_BELOW.items():
            self.assertEqual(self.answered(with_number(RANGES[name][0], place, number)), [refusal], name)

    def test_wrong_parts(self):
        for parts in WRONG_PARTS:
            self.assertEqual(self.answered(job(parts, comes=50)), [-2], parts)

    def test_no_job_to_name(self):
        for call in (kill(0), change(0, 0, 1), state(0), kill(-1), state(-1), bound(0), bound(-1)):
            self.assertEqual(last(begin(0), call), [-2], call)

    def test_what_follows_a_refused_row_is_read_aright(self):
        for parts in WRONG_PARTS:
            self.assertEqual(run(begin(0), job(parts), ORDER, job([1])), [[0], [-2], [0], [0]], parts)


class Rows(unittest.TestCase):
    def test_least_and_greatest_numbers_are_taken(self):
        for name, (made, group, ranges, counts) in ROWS.items():
            for place, bounds in enumerate(ranges):
                for number in bounds:
                    row = group[:place] + [number] + group[place + 1:]
                    for call in (made(row), made(row + group), made(group + row)):
                        self.assertGreaterEqual(last(call)[0], 0, (name, row))

    def test_fewest_and_most_groups_are_taken(self):
        for name, (made, group, ranges, counts) in ROWS.items():
            for count in counts:
                self.assertGreaterEqual(last(made(group * count))[0], 0, (name, count))

    def test_the_least_period(self):
        for name in ("demand", "again", "response", "ranked"):
            made, group = ROWS[name][:2]
            self.assertGreaterEqual(last(made([1, 1, 1] + group[3:]))[0], 0, name)
            for period in (0, -1, LEAST):
                self.assertEqual(last(made([period, 1, period] + group[3:])), [-2], name)
            self.assertEqual(last(made([13, 1, 13] + group[3:])), [-2], name)

    def test_a_due_above_its_period(self):
        for name in ("demand", "again", "response", "ranked"):
            made, group = ROWS[name][:2]
            for period in range(1, 12):
                self.assertGreaterEqual(last(made([period, 1, period] + group[3:]))[0], 0, (name, period))
                wrong = [period, 1, period + 1] + group[3:]
                for row in (wrong, group + wrong, wrong + group, [period, 1, 12] + group[3:]):
                    self.assertEqual(last(made(row)), [-2], (name, row))

    def test_wrong_rows_with_and_without_a_machine(self):
        for name, (made, group, ranges, counts) in ROWS.items():
            for row in wrong_rows(group, ranges, counts):
                self.assertEqual(last(made(row)), [-2], (name, row))
                self.assertEqual(last(*BEGUN, made(row)), [-2], (name, row))

    def test_number_ahead_of_the_row_without_a_machine(self):
        for call in (demand([1, 1, 1], -1), demand([1, 1, 1], 10001), ranked([1, 1, 1, 0], -1),
                     ranked([1, 1, 1, 0], 301), demand([], -1), ranked([1, 1, 1], 301)):
            self.assertEqual(last(call), [-2], call)

    def test_what_follows_a_refused_row_is_read_aright(self):
        for name, (made, group, ranges, counts) in ROWS.items():
            for row in wrong_rows(group, ranges, counts):
                told = run(begin(0), made(row), ORDER, made(group), job([1]))
                self.assertEqual(told[:3] + told[4:], [[0], [-2], [0], [0]], (name, row))
                self.assertEqual(told[3], last(made(group)), (name, row))


class NotBegun(unittest.TestCase):
    CALLS = [job([1]), ticks(1), until_over(1), kill(0), change(0, 0, 1), state(0), ORDER, SLEEPERS, trace(0, 0),
             TOTALS, compare(1), bound(0)]
    OUT_OF_RANGE = [job([0]), job([1], comes=-1), ticks(0), until_over(1001), kill(-1), change(0, 10, 1), state(16),
                    trace(1, 0), trace(0, 201), compare(0), compare(401), bound(-1), bound(16)]
    WITHOUT_MACHINE = [once([0, 1, 1]), tight([0, 1, 1]), demand([1, 1, 1], 1), again([1, 1, 1]), response([1, 1, 1]),
                       ranked([1, 1, 1, 0], 1)]

    def test_every_call_that_asks_for_a_machine(self):
        self.assertEqual(run(*self.CALLS), [[-1]] * 12)

    def test_goes_before_ranges(self):
        self.assertEqual(run(*self.OUT_OF_RANGE), [[-1]] * 13)

    def test_calls_that_need_no_machine(self):
        told = [[1, 0, 1], [0], [1], [1, 1], [1, 1], [1, 1]]
        self.assertEqual(run(*self.WITHOUT_MACHINE), told)
        self.assertEqual(run(*self.WITHOUT_MACHINE, ORDER, begin(0), *self.WITHOUT_MACHINE), told + [[-1], [0]] + told)

    def test_refused_begin_begins_nothing(self):
        self.assertEqual(run(begin(6), ORDER, begin(0, 0), ORDER, begin(0), ORDER), [[-2], [-1], [-2], [-1], [0], [0]])

    def test_begins_later_on(self):
        self.assertEqual(run(ORDER, begin(0), ORDER), [[-1], [0], [0]])


class OrderOfRefusals(unittest.TestCase):
    def test_job(self):
        full = [begin(0), *[job([1])] * 16]
        self.assertEqual(last(*full, job([1])), [-3])
        self.assertEqual(last(*full, ticks(1), job([1], comes=0)), [-3])
        self.assertEqual(last(*full, job([0])), [-2])
        self.assertEqual(last(*full, job([1], urgency=10)), [-2])
        self.assertEqual(last(*full[:-1], ticks(1), job([1], comes=0)), [-4])
        self.assertEqual(last(*full[:-1], ticks(1), job([1, -1], comes=0)), [-2])

    def test_done_and_killed_jobs_count_among_sixteen(self):
        line = [begin(0), *[job([1])] * 16, kill(3), until_over(20), job([1], comes=100)]
        self.assertEqual(last(*line), [-3])

    def test_ticks_and_until_over(self):
        end = [begin(0), *[ticks(200)] * 15]
        for call, refusal in [(ticks(1), -5), (ticks(200), -5), (ticks(0), -2), (ticks(201), -2),
                              (until_over(1), -5), (until_over(1000), -5), (until_over(0), -2), (until_over(1001), -2)]:
            self.assertEqual(last(*end, call), [refusal], call)

    def test_kill_and_change(self):
        line = [begin(0), job([1]), kill(0)]
        for call, refusal in [(kill(0), -6), (kill(1), -2), (change(0, 0, 1), -6), (change(0, 10, 1), -2),
                              (change(0, -1, 1), -2), (change(0, 0, 0), -2), (change(0, 0, 101), -2)]:
            self.assertEqual(last(*line, call), [refusal], call)


class ChangesNothing(unittest.TestCase):
    REFUSED = [
        (begin(6), -2), (begin(0, 0), -2), (begin(0, 1, 21), -2), (begin(0, 1, 0, 101), -2),
        (job([0]), -2), (job([1], comes=501), -2), (job([1], comes=0), -4),
        (ticks(0), -2), (ticks(201), -2), (until_over(0), -2), (until_over(1001), -2),
        (kill(-1), -2), (kill(JOBS), -2), (kill(0), -6), (kill(1), -6),
        (change(2, 10, 1), -2), (change(2, 5, 101), -2), (change(JOBS, 5, 5), -2),
        (change(0, 5, 5), -6), (change(1, 5, 5), -6),
        (state(-1), -2), (state(JOBS), -2), (trace(-1, 0), -2), (trace(NOW + 1, 0), -2), (trace(0, 201), -2),
        (compare(0), -2), (compare(401), -2), (bound(-1), -2), (bound(JOBS), -2),
        (once([0, 1]), -2), (tight([0, 0, 0]), -2), (demand([1, 1, 1], -1), -2), (demand([], 0), -2),
        (again([1, 1, 2]), -2), (response([]), -2), (ranked([1, 1, 1, 0], 301), -2), (ranked([1, 1, 1, 31], 0), -2),
    ]

    def test_now_and_later(self):
        later = ASK_ALL + [ticks(50)] + ASK_ALL + [job([1], comes=100)]
        asked = run(*BEGUN, *later)[len(BEGUN):]
        for call, refusal in self.REFUSED:
            told = run(*BEGUN, call, *later)[len(BEGUN):]
            self.assertEqual(told, [[refusal]] + asked, call)

    def test_too_many_jobs(self):
        line = [begin(0), *[job([1, -1, 2])] * 16, ticks(5)]
        asked = run(*line, *ASK_ALL, until_over(900), *ASK_ALL)[len(line):]
        told = run(*line, job([1], comes=9), *ASK_ALL, until_over(900), *ASK_ALL)[len(line):]
        self.assertEqual(told, [[-3]] + asked)

    def test_too_late(self):
        line = [begin(0), *[ticks(200)] * 14, ticks(190)]
        for call in (ticks(11), until_over(11)):
            told = run(*line, call, ticks(10), trace(2990, 200))[-3:]
            self.assertEqual(told, [[-5], [1, -1, 10], [1, -1, 10]], call)
        line = [begin(0), job([50] * 8, rounds=10), *[ticks(200)] * 14, ticks(190)]
        for call in (ticks(11), until_over(11)):
            self.assertEqual(last(*line, call, state(0)), last(*line, state(0)), call)


if __name__ == "__main__":
    unittest.main()
