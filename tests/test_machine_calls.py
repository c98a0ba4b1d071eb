"""The calls totals, compare and bound, worked out by hand from the document's words."""

import unittest

from tests.helper import (ORDER, SLEEPERS, TOTALS, begin, bound, change, compare, job, kill, last, run, state, ticks,
                          told_stretches, trace, until_over)


class Totals(unittest.TestCase):
    def test_new_machine(self):
        self.assertEqual(last(begin(0), TOTALS), [0, 0, 0, 0, 0, 0, 1])
        self.assertEqual(last(begin(2), job([3]), job([1], comes=9), TOTALS), [0, 2, 0, 0, 0, 0, 1])

    def test_ticks_that_nobody_ran_in(self):
        # Nobody, 0, 0, nobody, nobody; job 0 had pass 1 ahead of its last tick.
        self.assertEqual(last(begin(0), job([2], comes=1), ticks(5), TOTALS), [5, 1, 1, 3, 3, 1, 1])
        self.assertEqual(last(begin(0), *[ticks(200)] * 15, TOTALS), [3000, 0, 0, 3000, 1, 0, 1])

    def test_naps_are_ticks_that_nobody_ran_in(self):
        self.assertEqual(last(begin(4), job([1, -3, 1]), ticks(5), TOTALS), [5, 1, 1, 3, 3, 1, 1])

    def test_done_and_killed(self):
        line = [begin(0), job([1]), job([9]), job([9]), kill(1)]
        self.assertEqual(last(*line, TOTALS), [0, 3, 1, 0, 0, 0, 1])
        # Ticks: 0 (done), 2, 2.
        self.assertEqual(last(*line, ticks(3), TOTALS), [3, 3, 2, 0, 2, 1, 1])
        self.assertEqual(last(*line, ticks(3), kill(2), TOTALS), [3, 3, 3, 0, 2, 1, 1])

    def test_asleep_and_coming_are_not_over(self):
        line = [begin(0), job([1, -9, 1]), job([1], comes=5), ticks(2), TOTALS]
        self.assertEqual(last(*line), [2, 2, 0, 1, 2, 0, 1])

    def test_floor_that_is_no_whole_number(self):
        line = [begin(2), job([6], shares=3), job([4], shares=2)]
        # Ticks: 0 1 0 1 0 1 0 0; passes ahead of them: 0 0 1/3 1/2 2/3 1 1 4/3.
        for n, told in [(1, [1, 2, 0, 0, 1, 0, 1]), (3, [3, 2, 0, 0, 3, 1, 3]), (4, [4, 2, 0, 0, 4, 1, 2]),
                        (5, [5, 2, 0, 0, 5, 2, 3]), (7, [7, 2, 0, 0, 7, 1, 1]), (8, [8, 2, 0, 0, 7, 4, 3])]:
            self.assertEqual(last(*line, ticks(n), TOTALS), told, n)

    def test_floor_in_lowest_terms_with_a_large_bottom(self):
        line = [begin(2), job([9], shares=97), ticks(1), change(0, 0, 89), ticks(2), TOTALS]
        # 1/97 + 1/89 = 186 / 8633
        self.assertEqual(last(*line), [3, 1, 0, 0, 1, 186, 8633])

    def test_floor_does_not_fall(self):
        line = [begin(3), job([3], deadline=5), job([3], shares=10)]
        # Job 0 takes the floor to 2; job 1 runs with pass 0 then.
        self.assertEqual(last(*line, ticks(4), TOTALS), [4, 2, 1, 0, 2, 2, 1])

    def test_stretches_go_on_over_several_calls(self):
        line = [begin(0, slice_ticks=9), job([9]), job([9]), ticks(2), ticks(3), until_over(2), ticks(4), TOTALS]
        self.assertEqual(last(*line), [11, 2, 1, 0, 2, 8, 1])

    def test_begin_begins_them_anew(self):
        self.assertEqual(last(begin(2), job([9]), ticks(9), begin(2), TOTALS), [0, 0, 0, 0, 0, 0, 1])


THREE = [job([4]), job([2], urgency=2, shares=2, deadline=3), job([1], deadline=2)]
# Who goes, policy by policy, with slice 1 and age 1:
# 0 1 2 0 1 0 0; 1 1 0 2 0 0 0; 0 1 2 1 0 0 0; 2 1 1 0 0 0 0; 2 1 1 0 0 0 0; 0 1 2 0 0 1 0
IN_TURN = [3, 3 + 5 + 7, 1, 2, 2]
BY_URGENCY = [3, 2 + 4 + 7, 1, 2, 3]
BY_SHARES = [3, 3 + 4 + 7, 1, 1, 3]
BY_DEADLINES = [3, 1 + 3 + 7, 1, 0, 3]
LEAST_LEFT = [3, 1 + 3 + 7, 1, 0, 3]
BY_LEVELS = [3, 3 + 6 + 7, 1, 3, 3]
OF_THREE = IN_TURN + BY_URGENCY + BY_SHARES + BY_DEADLINES + LEAST_LEFT + BY_LEVELS


class Compare(unittest.TestCase):
    def test_every_policy(self):
        for policy in range(6):
            self.assertEqual(last(begin(policy, 1, 1), *THREE, compare(400)), OF_THREE, policy)

    def test_just_enough_ticks(self):
        self.assertEqual(last(begin(0, 1, 1), *THREE, compare(7)), OF_THREE)

    def test_too_few_ticks_for_all_to_be_done(self):
        three = [1, 3, 1, 1, 2] + [1, 2, 1, -1, 3] + [1, 3, 1, 1, 2] + [2, 4, 1, 0, 3] * 2 + [1, 3, 1, 1, 2]
        self.assertEqual(last(begin(0, 1, 1), *THREE, compare(3)), three)
        one = [0, 0, 0, 1] * 3 + [1, 1, 1, -1, 1] * 2 + [0, 0, 0, 1]
        self.assertEqual(last(begin(0, 1, 1), *THREE, compare(1)), one)

    def test_no_jobs(self):
        for n in (1, 400):
            self.assertEqual(last(begin(0), compare(n)), [0, 0, 0, 0] * 6)

    def test_no_deadlines(self):
        self.assertEqual(last(begin(0), job([2]), compare(400)), [1, 2, 0, 0] * 6)
        self.assertEqual(last(begin(0), job([2], deadline=5), compare(1)), [0, 0, 0, 0] * 6)

    def test_late_counts_behind_coming_and_deadline(self):
        for deadline, late in [(1, 1), (2, 0), (3, -1), (1000, -998)]:
            self.assertEqual(last(begin(0), job([2], comes=5, deadline=deadline), compare(9)), [1, 7, 1, late, 0] * 6)

    def test_only_jobs_with_a_deadline_count_for_lateness(self):
        line = [begin(3), job([9]), job([1], deadline=4), compare(400)]
        self.assertEqual(last(*line)[15:20], [2, 11, 1, -3, 1])

    def test_only_jobs_that_are_done_count_for_lateness(self):
        line = [begin(3), job([1], deadline=9), job([50], deadline=10), compare(40)]
        self.assertEqual(last(*line)[15:20], [1, 1, 1, -8, 1])

    def test_longest_wait_of_jobs_not_done(self):
        line = [begin(3), job([50, 50], deadline=9), job([1]), compare(77)]
        self.assertEqual(last(*line)[12:16], [0, 0, 0, 77])

    def test_naps_and_rounds(self):
        # Works 0, 2, 3, 5.
        line = [begin(0), job([1, -1, 1], deadline=10, rounds=2), compare(400)]
        self.assertEqual(last(*line), [1, 6, 1, -4, 0] * 6)

    def test_comes_behind_the_last_tick(self):
        self.assertEqual(last(begin(0), job([1], comes=400, deadline=1), compare(400)), [0, 0, 0, 0] * 6)
        self.assertEqual(last(begin(0), job([1], comes=399, deadline=1), compare(400)), [1, 400, 1, 0, 0] * 6)

    def test_done_and_killed_as_if_just_told(self):
        line = [begin(0, 1, 1), *THREE]
        self.assertEqual(last(*line, kill(0), kill(2), compare(400)), OF_THREE)
        self.assertEqual(last(*line, ticks(4), compare(400)), OF_THREE)
        self.assertEqual(last(*line, ticks(4), kill(0), compare(400)), OF_THREE)
        self.assertEqual(last(*line, until_over(100), ticks(200), compare(400)), OF_THREE)

    def test_naps_that_last_as_if_just_told(self):
        line = [begin(5, boost=3), job([2, -5, 1], deadline=1), ticks(4), compare(400)]
        self.assertEqual(last(*line), [1, 8, 1, 7, 0] * 6)

    def test_jobs_told_later_keep_their_coming(self):
        line = [begin(0), ticks(30), job([2], comes=30, deadline=1), ticks(40), compare(400)]
        self.assertEqual(last(*line), [1, 32, 1, 1, 0] * 6)

    def test_at_the_last_time(self):
        line = [begin(0, 1, 1), *THREE, *[ticks(200)] * 15, compare(400)]
        self.assertEqual(last(*line), OF_THREE)

    def test_urgency_as_changed(self):
        # Job 2 goes first by urgency now: 2 1 0 1 0 0 0.
        told = last(begin(0, 1, 1), *THREE, change(2, 9, 1), compare(400))
        self.assertEqual(told[5:10], [3, 1 + 4 + 7, 1, 1, 2])
        self.assertEqual(told[:5] + told[10:], OF_THREE[:5] + OF_THREE[10:])

    def test_shares_as_changed(self):
        # By shares 0 1 2 0 1 0 0, as all have one share now.
        told = last(begin(0, 1, 1), *THREE, ticks(1), change(1, 2, 1), compare(400))
        self.assertEqual(told[10:15], [3, 3 + 5 + 7, 1, 2, 2])
        self.assertEqual(told[:10] + told[15:], OF_THREE[:10] + OF_THREE[15:])

    def test_this_slice(self):
        # 0 0 1 1 2 0 0
        told = last(begin(3, 2, 1), *THREE, compare(400))
        self.assertEqual(told, [3, 4 + 5 + 7, 1, 3, 4] + OF_THREE[5:])

    def test_this_age(self):
        # Job 1 goes last without an age; with one of 2 it's as urgent at time 2, and has the lesser turn.
        two = [job([8], urgency=1), job([1])]
        without, with_age = [last(begin(0, 1, age), *two, compare(400))[4:8] for age in (0, 2)]
        self.assertEqual(without, [2, 8 + 9, 0, 8])
        self.assertEqual(with_age, [2, 3 + 9, 0, 2])

    def test_this_boost(self):
        two = [job([6]), job([6])]
        # By levels 0 1 00 11 000 111 without a boost; 0 1 00 1 0 11 0 1 0 1 with one of 4.
        without, boosted = [last(begin(0, 1, 0, boost), *two, compare(400))[20:] for boost in (0, 4)]
        self.assertEqual(without, [2, 9 + 12, 0, 3])
        self.assertEqual(boosted, [2, 11 + 12, 0, 2])


class CompareLeavesTheMachine(unittest.TestCase):
    def test_as_it_was(self):
        for policy in range(6):
            line = [begin(policy, 2, 1, 3), *THREE, job([2, -4, 3], shares=3, rounds=3), job([9], shares=7),
                    job([2], comes=30), kill(0), ticks(8), change(4, 3, 9)]
            ask = [state(j) for j in range(6)] + [ORDER, SLEEPERS, trace(0, 200), TOTALS]
            told = run(*line, *ask, compare(400), *ask, compare(3), *ask)[len(line):]
            self.assertEqual(told[:10], told[11:21], policy)
            self.assertEqual(told[:10], told[22:], policy)

    def test_goes_on_as_without_it(self):
        for policy in range(6):
            line = [begin(policy, 2, 1, 3), *THREE, job([2, -4, 3], shares=3, rounds=3), ticks(3)]
            later = [ticks(5), job([1], comes=9), until_over(90), trace(0, 200), TOTALS, state(1), state(3), state(4)]
            self.assertEqual(run(*line, *later)[len(line):], run(*line, compare(400), *later)[len(line) + 1:], policy)

    def test_twice_the_same(self):
        told = run(begin(1, 2, 1, 3), *THREE, compare(400), compare(2), compare(400))
        self.assertEqual(told[-1], told[-3])


class Bound(unittest.TestCase):
    def test_in_turn(self):
        four = [job([9])] * 4
        self.assertEqual([last(begin(0, 3, 5), *four, bound(j)) for j in range(4)], [[1, 9]] * 4)
        self.assertEqual(last(begin(0, 20), job([9]), bound(0)), [1, 0])
        self.assertEqual(last(begin(0, 20), *[job([9])] * 16, bound(15)), [1, 300])

    def test_by_urgency_with_age(self):
        three = [job([9], urgency=urgency) for urgency in (0, 4, 9)]
        self.assertEqual([last(begin(1, 7, 2), *three, bound(j)) for j in range(3)], [[1, 25], [1, 17], [1, 7]])
        self.assertEqual(last(begin(1, 1, 1), job([9], urgency=9), bound(0)), [1, 3])
        self.assertEqual(last(begin(1, 1, 20), *[job([9])] * 16, bound(15)), [1, 236])

    def test_by_urgency_without_age(self):
        self.assertEqual(last(begin(1, 5, 0), job([9]), job([9]), bound(0)), [0])

    def test_the_other_policies_have_none(self):
        for policy in (2, 3, 4, 5):
            self.assertEqual(last(begin(policy, 5, 5, 5), job([9]), job([9]), bound(1)), [0], policy)

    def test_done_and_killed_jobs_count_and_have_one(self):
        line = [begin(0, 2), job([1]), job([9]), job([9]), kill(1), ticks(5)]
        self.assertEqual(run(*line, bound(0), bound(1), bound(2))[-3:], [[1, 4]] * 3)
        line = [begin(1, 2, 3), job([1], urgency=9), job([9], urgency=3), job([9]), kill(1), ticks(5)]
        self.assertEqual(run(*line, bound(0), bound(1), bound(2))[-3:], [[1, 9], [1, 27], [1, 36]])

    def test_jobs_told_so_far(self):
        line = [begin(0, 3), job([9]), bound(0), job([9]), bound(0), job([9], comes=500), bound(0)]
        self.assertEqual(run(*line)[2::2], [[1, 0], [1, 3], [1, 6]])

    def test_urgency_as_changed(self):
        line = [begin(1, 1, 4), job([9], urgency=2), bound(0), change(0, 7, 1), bound(0)]
        self.assertEqual(run(*line)[2::2], [[1, 37], [1, 17]])

    def test_asking_changes_nothing(self):
        line = [begin(0, 2), job([5]), job([5])]
        self.assertEqual(last(*line, ticks(1), bound(0), TOTALS, ticks(4)), told_stretches((0, 1), (1, 2), (0, 1)))


if __name__ == "__main__":
    unittest.main()
