"""The document's promises 1 to 5, which follow from what else it tells, over many drawn inputs."""

import functools
import itertools
import random
import unittest

from tests.helper import (again, begin, bound, change, compare, demand, job, kill, last, named, once, ranked, response,
                          run, state, ticks, tight, until_over)
from tests.test_against_reference import made_job, made_kinds, made_once_row


class NoJobWaitsLongerThanItsBound(unittest.TestCase):
    def longest_waits(self, line, count):
        told = run(*line, *[state(j) for j in range(count)])
        return [named(found)["longest"] for found in told[-count:]]

    def test_in_turn(self):
        source = random.Random("bound in turn")
        for _ in range(80):
            slice_ticks, count = source.randint(1, 6), source.randint(1, 8)
            line = [begin(0, slice_ticks)] + [made_job(source) for _ in range(count)]
            line += [ticks(9), kill(source.randrange(count)), ticks(150)]
            self.assertLessEqual(max(self.longest_waits(line, count)), slice_ticks * (count - 1), line)

    def test_in_turn_the_bound_is_reached(self):
        line = [begin(0, slice_ticks=4)] + [job([20])] * 5 + [ticks(40)]
        self.assertEqual(self.longest_waits(line, 5), [16] * 5)

    def test_by_urgency(self):
        source = random.Random("bound by urgency")
        for _ in range(80):
            age, count = source.randint(1, 4), source.randint(1, 10)
            jobs = [made_job(source) for _ in range(count)]
            waits = self.longest_waits([begin(1, age=age)] + jobs + [ticks(200)], count)
            for told, waited in zip(jobs, waits):
                self.assertLessEqual(waited, age * (11 - told[2]) + count, jobs)

    def test_by_urgency_among_the_most_urgent(self):
        line = [begin(1, age=3), job([50], urgency=0)] + [job([50] * 12, urgency=9, rounds=10)] * 15 + [ticks(200)]
        waits = self.longest_waits(line, 16)
        self.assertLessEqual(waits[0], 3 * 11 + 16)
        self.assertLessEqual(max(waits[1:]), 3 * 2 + 16)

    def drawn_event(self, source, count, now):
        """A kill, a change or a new job between two ticks, or nothing."""
        chance = source.random()
        if chance < 0.03:
            return [kill(source.randrange(count))]
        if chance < 0.15:
            return [change(source.randrange(count), source.randint(0, 9), 1)]
        if chance < 0.2 and count < 6:
            return [job([source.randint(1, 9)] * 6, comes=now, urgency=source.randint(0, 9), rounds=3)]
        return []

    def hold_tick_by_tick(self, source, policy):
        count = source.randint(1, 4)
        line = [begin(policy, source.randint(1, 4), source.randint(1, 3))] + [made_job(source) for _ in range(count)]
        asked = []
        for now in range(1, 21):
            line.append(ticks(1))
            for j in range(count):
                asked.append(len(line))
                line += [state(j), bound(j)]
            event = self.drawn_event(source, count, now)
            count += sum(call[0] == 1 for call in event)
            line += event
        told = run(*line)
        for at in asked:
            found = named(told[at])
            if found["stands"] == 1:
                self.assertEqual(told[at + 1][0], 1)
                self.assertLessEqual(found["waited"], told[at + 1][1], line)

    def test_with_changes_kills_and_new_jobs(self):
        source = random.Random("bound tick by tick")
        for _ in range(150):
            self.hold_tick_by_tick(source, source.randint(0, 1))

    def test_the_bound_that_is_answered(self):
        source = random.Random("bound as answered")
        for _ in range(80):
            count = source.randint(1, 12)
            line = [begin(source.randint(0, 1), source.randint(1, 6), source.randint(1, 6))]
            line += [made_job(source) for _ in range(count)] + [ticks(200)]
            told = run(*line, *[state(j) for j in range(count)], *[bound(j) for j in range(count)])[len(line):]
            for found, most in zip(told[:count], told[count:]):
                self.assertEqual(most[0], 1)
                self.assertLessEqual(named(found)["longest"], most[1], line)


class TicksGoByShares(unittest.TestCase):
    def test_two_jobs_ready_all_the_while(self):
        source = random.Random("shares")
        for _ in range(60):
            one, other = source.randint(1, 100), source.randint(1, 100)
            more = [made_job(source) for _ in range(source.randint(0, 4))]
            line = [begin(2), job([50] * 12, shares=one), job([50] * 12, shares=other)] + more
            told = run(*line, *[ticks(7), state(0), state(1)] * 25)[len(line):]
            for first, second in zip(told[1::3], told[2::3]):
                apart = named(first)["ran"] * other - named(second)["ran"] * one
                self.assertLessEqual(abs(apart), one + other, line)

    def test_from_any_time_on_when_both_are_ready(self):
        source = random.Random("shares between any times")
        for _ in range(60):
            shares = [source.randint(1, 100), source.randint(1, 100)]
            # Each comes, works and naps once, and is ready without an end from time 60 at the latest.
            both = [job([source.randint(1, 5), -source.randint(1, 9)] + [50] * 10, comes=source.randint(0, 9),
                        shares=own) for own in shares]
            more = [made_job(source) for _ in range(source.randint(0, 3))]
            line = [begin(2)] + both + more + [ticks(100)]
            told = run(*line, *[ticks(source.randint(1, 6)), state(0), state(1)] * 25)[len(line):]
            self.assertEqual([named(found)["part"] > 1 for found in told[1:3]], [True, True], line)
            rans = [(named(one)["ran"], named(other)["ran"]) for one, other in zip(told[1::3], told[2::3])]
            for early, late in itertools.combinations(rans, 2):
                apart = (late[0] - early[0]) * shares[1] - (late[1] - early[1]) * shares[0]
                self.assertLessEqual(abs(apart), sum(shares), line)


def threes(row):
    return list(zip(row[0::3], row[1::3], row[2::3]))


def least_lateness(jobs):
    """The least greatest lateness of (from, need, due) jobs, over all ways to give out the ticks."""
    @functools.cache
    def best(now, left):
        if not any(left):
            return -1000
        ways = []
        for k, ticks_left in enumerate(left):
            if ticks_left and jobs[k][0] <= now:
                after = best(now + 1, left[:k] + (ticks_left - 1,) + left[k + 1:])
                ways.append(max(after, now + 1 - jobs[k][2]) if ticks_left == 1 else after)
        # A tick may also be left out, as long as somebody comes later on.
        if now < max(start for start, _, _ in jobs):
            ways.append(best(now + 1, left))
        return min(ways)
    return best(0, tuple(need for _, need, _ in jobs))


class NoOtherWayIsLessLate(unittest.TestCase):
    def drawn(self, name, count):
        source = random.Random(name)
        for _ in range(count):
            yield [number for _ in range(source.randint(1, 4)) for number in
                   (source.randint(0, 6), source.randint(1, 4), source.randint(0, 14))]

    def test_greatest_lateness(self):
        for row in self.drawn("lateness", 150):
            self.assertEqual(last(once(row))[1], least_lateness(threes(row)), row)

    def test_it_is_the_greatest_of_what_is_told(self):
        for row in self.drawn("greatest", 150):
            told = last(once(row))
            lateness = [done - due for done, (_, _, due) in zip(told[2:], threes(row), strict=True)]
            self.assertEqual(told[:2], [int(max(lateness) <= 0), max(lateness)], row)

    def test_none_is_late_just_if_nothing_is_tight(self):
        source = random.Random("tight")
        found = [0, 0]
        for _ in range(600):
            row = made_once_row(source)
            told = last(tight(row))
            found[told[0]] += 1
            self.assertEqual(last(once(row))[0], 1 - told[0], row)
        self.assertGreater(min(found), 100)

    def test_what_is_tight_is_tight(self):
        for row in self.drawn("told tight", 300):
            told = last(tight(row))
            if told[0] == 1:
                a, b, must = told[1:]
                self.assertEqual(must, sum(need for start, need, due in threes(row) if start >= a and due <= b), row)
                self.assertGreater(must, max(b - a, 0), row)


def least_sum_of_times(jobs):
    """The least sum of times when (comes, work) jobs are done, over all ways to give out the ticks."""
    @functools.cache
    def best(now, left):
        if not any(left):
            return 0
        may = [k for k, ticks_left in enumerate(left) if ticks_left and jobs[k][0] <= now]
        if not may:
            return best(now + 1, left)
        ways = []
        for k in may:
            after = left[:k] + (left[k] - 1,) + left[k + 1:]
            ways.append(best(now + 1, after) + (now + 1 if after[k] == 0 else 0))
        return min(ways)
    return best(0, tuple(work for comes, work in jobs))


class LeastLeftIsDoneSoonest(unittest.TestCase):
    def test_sum_of_times(self):
        source = random.Random("least left")
        for _ in range(60):
            jobs = [(source.randint(0, 8), source.randint(1, 6)) for _ in range(source.randint(1, 4))]
            line = [begin(4)] + [job([work], comes=comes) for comes, work in jobs] + [until_over(100)]
            told = run(*line, *[state(j) for j in range(len(jobs))])[len(line):]
            self.assertEqual(sum(named(found)["ended"] for found in told), least_sum_of_times(jobs), jobs)


    def test_no_policy_does_better(self):
        source = random.Random("least left compared")
        for _ in range(100):
            jobs = [job([source.randint(1, 9)], comes=source.randint(0, 20), urgency=source.randint(0, 9),
                        shares=source.randint(1, 9)) for _ in range(source.randint(1, 8))]
            line = [begin(0, source.randint(1, 4), source.randint(0, 3), source.randint(0, 9))] + jobs
            told = last(*line, compare(400))
            self.assertEqual(told[0::4], [len(jobs)] * 6)
            self.assertEqual(min(told[1::4]), told[17], line)

    def test_sum_of_times_as_compared(self):
        source = random.Random("least left, sums")
        for _ in range(40):
            jobs = [(source.randint(0, 8), source.randint(1, 6)) for _ in range(source.randint(1, 4))]
            line = [begin(1)] + [job([work], comes=comes) for comes, work in jobs]
            self.assertEqual(last(*line, compare(400))[17], least_sum_of_times(jobs), jobs)


def can_meet_all(kinds, whole):
    """If some way to give out the ticks up to the round meets all deadlines: all ways are gone through."""
    ways = {tuple(0 for _ in kinds)}
    for now in range(whole):
        after = set()
        for left in ways:
            # Each is due by its next coming, so at most one of a kind is ever there.
            left = tuple(need if now % period == 0 else some for some, (period, need, _) in zip(left, kinds))
            choices = [left] + [left[:k] + (some - 1,) + left[k + 1:] for k, some in enumerate(left) if some]
            after.update(choices)
        ways = {left for left in after
                if not any(some and (now + 1) % period == due % period
                           for some, (period, _, due) in zip(left, kinds))}
    return bool(ways)


class KindsMeetTheirDeadlines(unittest.TestCase):
    def test_just_if_the_demand_is_never_more_than_the_time(self):
        source = random.Random("kinds")
        found = [0, 0]
        for _ in range(300):
            row = made_kinds(source, 3, most=3, longest=6)
            told = last(again(row))
            found[told[0]] += 1
            self.assertEqual(told[0], int(can_meet_all(threes(row), told[1])), row)
        self.assertGreater(min(found), 50)

    def test_again_is_told_by_the_demand(self):
        source = random.Random("again by demand")
        for _ in range(60):
            row = made_kinds(source, 3, most=3, longest=6)
            told = last(again(row))
            asked = [last(demand(row, t))[0] for t in range(told[1] + 1)]
            too_much = [[t, found] for t, found in enumerate(asked) if found > t]
            self.assertEqual(told, [0, told[1]] + too_much[0] if too_much else [1, told[1]], row)


class NoComingTakesLongerThanTheResponse(unittest.TestCase):
    def responses(self, row):
        told = last(response(row))
        found = []
        at = 0
        while at < len(told):
            found.append(told[at + 1] if told[at] else None)
            at += 1 + told[at]
        self.assertEqual(len(found), len(row) // 3)
        return found

    def longest(self, row, beginnings, n=300):
        fours = [number for kind, beginning in zip(threes(row), beginnings, strict=True)
                 for number in (*kind, beginning)]
        return last(ranked(fours, n))[1::2]

    def test_whenever_the_kinds_begin(self):
        source = random.Random("response")
        held = 0
        for _ in range(400):
            row = made_kinds(source, 3)
            beginnings = [source.randint(0, 30) for _ in threes(row)]
            for took, most in zip(self.longest(row, beginnings), self.responses(row), strict=True):
                if most is not None:
                    held += 1
                    self.assertLessEqual(took, most, (row, beginnings))
        self.assertGreater(held, 400)

    def test_one_takes_just_so_long(self):
        source = random.Random("response reached")
        for _ in range(400):
            row = made_kinds(source, 3)
            for n in (12, 300):
                found = self.longest(row, [0] * len(threes(row)), n)
                for took, most in zip(found, self.responses(row), strict=True):
                    if most is not None:
                        self.assertEqual(took, most, (row, n))


class ChangeAndShares(unittest.TestCase):
    def test_new_shares_count_from_then_on(self):
        line = [begin(2), job([50] * 12, shares=1), job([50] * 12, shares=1), ticks(20), change(0, 0, 3), ticks(80)]
        told = run(*line, state(0), state(1))[-2:]
        self.assertEqual([named(found)["ran"] for found in told], [70, 30])


if __name__ == "__main__":
    unittest.main()
