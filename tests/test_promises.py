"""The document's promises 1, 2 and 4, which follow from what the ticks do."""

import functools
import random
import unittest

from tests.helper import begin, change, job, kill, named, run, state, ticks, until_over
from tests.test_against_reference import made_job


class NoJobWaitsLongerThanItsBound(unittest.TestCase):
    def longest_waits(self, line, count):
        told = run(*line, *[state(j) for j in range(count)])
        return [named(found)["longest"] for found in told[-count:]]

    def test_in_turn(self):
        source = random.Random("bound in turn")
        for _ in range(80):
            slice_ticks, count = source.randint(1, 6), source.randint(1, 8)
            line = [begin(0, slice_ticks)] + [made_job(source) for _ in range(count)]
            line += [ticks(9), kill(source.randrange(count)), ticks(150)]
            self.assertLessEqual(max(self.longest_waits(line, count)), slice_ticks * (count - 1), line)

    def test_in_turn_the_bound_is_reached(self):
        line = [begin(0, slice_ticks=4)] + [job([20])] * 5 + [ticks(40)]
        self.assertEqual(self.longest_waits(line, 5), [16] * 5)

    def test_by_urgency(self):
        source = random.Random("bound by urgency")
        for _ in range(80):
            age, count = source.randint(1, 4), source.randint(1, 10)
            jobs = [made_job(source) for _ in range(count)]
            waits = self.longest_waits([begin(1, age=age)] + jobs + [ticks(200)], count)
            for told, waited in zip(jobs, waits):
                self.assertLessEqual(waited, age * (11 - told[2]) + count, jobs)

    def test_by_urgency_among_the_most_urgent(self):
        line = [begin(1, age=3), job([50], urgency=0)] + [job([50] * 12, urgency=9, rounds=10)] * 15 + [ticks(200)]
        waits = self.longest_waits(line, 16)
        self.assertLessEqual(waits[0], 3 * 11 + 16)
        self.assertLessEqual(max(waits[1:]), 3 * 2 + 16)


class TicksGoByShares(unittest.TestCase):
    def test_two_jobs_ready_all_the_while(self):
        source = random.Random("shares")
        for _ in range(60):
            one, other = source.randint(1, 100), source.randint(1, 100)
            more = [made_job(source) for _ in range(source.randint(0, 4))]
            line = [begin(2), job([50] * 12, shares=one), job([50] * 12, shares=other)] + more
            told = run(*line, *[ticks(7), state(0), state(1)] * 25)[len(line):]
            for first, second in zip(told[1::3], told[2::3]):
                apart = named(first)["ran"] * other - named(second)["ran"] * one
                self.assertLessEqual(abs(apart), one + other, line)


def least_sum_of_times(jobs):
    """The least sum of times when (comes, work) jobs are done, over all ways to give out the ticks."""
    @functools.cache
    def best(now, left):
        if not any(left):
            return 0
        may = [k for k, ticks_left in enumerate(left) if ticks_left and jobs[k][0] <= now]
        if not may:
            return best(now + 1, left)
        ways = []
        for k in may:
            after = left[:k] + (left[k] - 1,) + left[k + 1:]
            ways.append(best(now + 1, after) + (now + 1 if after[k] == 0 else 0))
        return min(ways)
    return best(0, tuple(work for comes, work in jobs))


class LeastLeftIsDoneSoonest(unittest.TestCase):
    def test_sum_of_times(self):
        source = random.Random("least left")
        for _ in range(60):
            jobs = [(source.randint(0, 8), source.randint(1, 6)) for _ in range(source.randint(1, 4))]
            line = [begin(4)] + [job([work], comes=comes) for comes, work in jobs] + [until_over(100)]
            told = run(*line, *[state(j) for j in range(len(jobs))])[len(line):]
            self.assertEqual(sum(named(found)["ended"] for found in told), least_sum_of_times(jobs), jobs)


class ChangeAndShares(unittest.TestCase):
    def test_new_shares_count_from_then_on(self):
        line = [begin(2), job([50] * 12, shares=1), job([50] * 12, shares=1), ticks(20), change(0, 0, 3), ticks(80)]
        told = run(*line, state(0), state(1))[-2:]
        self.assertEqual([named(found)["ran"] for found in told], [70, 30])


if __name__ == "__main__":
    unittest.main()
