"""Who goes first: lines worked out by hand from the document's words, policy by policy."""

import unittest

from tests.helper import ORDER, SLEEPERS, begin, change, job, kill, last, named, run, state, ticks, told_stretches


class InTurn(unittest.TestCase):
    LINE = [begin(0, slice_ticks=2), job([3]), job([1, -2, 2], rounds=2), job([2], comes=1)]

    def test_naps_rounds_and_slices(self):
        told = last(*self.LINE, ticks(13))
        self.assertEqual(told, told_stretches((0, 2), (1, 1), (2, 2), (0, 1), (1, 3), (-1, 2), (1, 2)))

    def test_states_at_the_end(self):
        told = run(*self.LINE, ticks(13), state(0), state(1), state(2))[-3:]
        self.assertEqual(told[0], [3, 0, 0, 0, 0, 0, 1, 0, 3, 1, 3, 6, 3])
        self.assertEqual(told[1], [3, 2, 0, 1, 11, 0, 2, 0, 6, 1, 6, 13, 2])
        self.assertEqual(told[2], [3, 0, 0, 0, 0, 0, 2, 0, 2, 1, 2, 5, 2])

    def test_current_job_goes_on_within_its_slice(self):
        line = [begin(0, slice_ticks=3), job([9]), job([9]), job([9])]
        self.assertEqual(last(*line, ticks(1), ORDER), [3, 0, 1, 2])
        self.assertEqual(last(*line, ticks(3), ORDER), [3, 1, 2, 0])
        self.assertEqual(last(*line, ticks(4), ORDER), [3, 1, 2, 0])
        self.assertEqual(last(*line, ticks(7), ORDER), [3, 2, 0, 1])

    def test_kill_of_the_current_job(self):
        line = [begin(0, slice_ticks=2), job([9]), job([9]), ticks(3)]
        self.assertEqual(last(*line, ORDER), [2, 1, 0])
        self.assertEqual(last(*line, kill(1), ORDER), [1, 0])
        self.assertEqual(last(*line, kill(1), ticks(2)), told_stretches((0, 2)))

    def test_slice_of_one_and_of_twenty(self):
        two = [job([30]), job([30])]
        self.assertEqual(last(begin(0, slice_ticks=1), *two, ticks(4)), told_stretches((0, 1), (1, 1), (0, 1), (1, 1)))
        self.assertEqual(last(begin(0, slice_ticks=20), *two, ticks(42)), told_stretches((0, 20), (1, 20), (0, 2)))

    def test_work_beside_work_goes_on_with_the_slice(self):
        line = [begin(0, slice_ticks=3), job([2, 2]), job([2])]
        self.assertEqual(last(*line, ticks(6)), told_stretches((0, 3), (1, 2), (0, 1)))

    def test_new_turn_only_when_the_slice_is_used(self):
        line = [begin(0, slice_ticks=2), job([1, -1, 3]), job([4])]
        # Job 0 naps over time 1, wakes at 2 behind job 1, which has used 1 of its slice by then.
        self.assertEqual(last(*line, ticks(8)), told_stretches((0, 1), (1, 2), (0, 2), (1, 2), (0, 1)))

    def test_nobody_runs_and_no_current_job_stays(self):
        line = [begin(0, slice_ticks=5), job([1], comes=3), ticks(4)]
        self.assertEqual(last(*line), told_stretches((-1, 3), (0, 1)))


class ByUrgency(unittest.TestCase):
    def test_without_age(self):
        line = [begin(1, age=0), job([2], urgency=2), job([1, -1, 1], urgency=5), job([2], urgency=2)]
        self.assertEqual(last(*line, ticks(6)), told_stretches((1, 1), (0, 1), (1, 1), (2, 1), (0, 1), (2, 1)))
        self.assertEqual(last(*line, ticks(1), ORDER), [2, 0, 2])
        self.assertEqual(last(*line, ticks(2), ORDER), [2, 2, 0])

    def test_without_age_one_may_wait_on(self):
        line = [begin(1, age=0), job([50], urgency=1), job([50], urgency=0), ticks(50), state(1)]
        self.assertEqual(named(last(*line))["waited"], 50)

    def test_with_age(self):
        line = [begin(1, age=2), job([5], urgency=3), job([2], urgency=1)]
        self.assertEqual(last(*line, ticks(7)), told_stretches((0, 4), (1, 1), (0, 1), (1, 1)))
        self.assertEqual(named(last(*line, ticks(7), state(0)))["longest"], 1)
        self.assertEqual(named(last(*line, ticks(7), state(1)))["longest"], 4)

    def test_waited_by_age_is_rounded_down(self):
        line = [begin(1, age=3), job([9], urgency=1), job([9], urgency=0)]
        # Waited 2 of 3 counts nothing at time 2; at time 3 it's 1, and the turn is the lesser.
        self.assertEqual(last(*line, ticks(4)), told_stretches((0, 3), (1, 1)))

    def test_age_of_twenty(self):
        line = [begin(1, age=20), job([50], urgency=1), job([50], urgency=0)]
        self.assertEqual(last(*line, ticks(21)), told_stretches((0, 20), (1, 1)))

    def test_alike_ones_take_turns_tick_by_tick(self):
        line = [begin(1, slice_ticks=20), job([3], urgency=4), job([3], urgency=4), job([3], urgency=4)]
        self.assertEqual(last(*line, ticks(4)), told_stretches((0, 1), (1, 1), (2, 1), (0, 1)))

    def test_change_between_ticks(self):
        line = [begin(1, age=0), job([9], urgency=4), job([9], urgency=2), ticks(2)]
        self.assertEqual(last(*line, change(1, 5, 1), ticks(3)), told_stretches((1, 3)))
        self.assertEqual(last(*line, change(0, 1, 1), ticks(3)), told_stretches((1, 3)))

    def test_change_takes_the_age_away(self):
        line = [begin(1, age=1), job([9], urgency=3), job([9], urgency=1), ticks(2)]
        self.assertEqual(last(*line, ORDER), [2, 1, 0])
        self.assertEqual(last(*line, change(1, 1, 1), ORDER), [2, 0, 1])

    def test_kill_between_ticks(self):
        line = [begin(1), job([9], urgency=9), job([9], urgency=2), job([9], urgency=3), ticks(2)]
        self.assertEqual(last(*line, kill(0), ticks(2)), told_stretches((2, 2)))


class ByShares(unittest.TestCase):
    LINE = [begin(2), job([6], shares=3), job([4], shares=2)]

    def test_shares_not_alike(self):
        told = last(*self.LINE, ticks(10))
        self.assertEqual(told, told_stretches((0, 1), (1, 1), (0, 1), (1, 1), (0, 1), (1, 1), (0, 2), (1, 1), (0, 1)))

    def test_alike_passes_go_by_the_lesser_turn(self):
        # At time 5 both passes are 1; job 1 ran at time 3, job 0 at time 4.
        self.assertEqual(last(*self.LINE, ticks(5), ORDER), [2, 1, 0])

    def passes(self, *calls):
        told = named(last(*calls))
        return (told["pass_top"], told["pass_bottom"])

    def test_passes_in_lowest_terms(self):
        self.assertEqual(self.passes(*self.LINE, state(0)), (0, 1))
        self.assertEqual(self.passes(*self.LINE, ticks(1), state(0)), (1, 3))
        self.assertEqual(self.passes(*self.LINE, ticks(5), state(0)), (1, 1))
        self.assertEqual(self.passes(*self.LINE, ticks(7), state(0)), (4, 3))
        self.assertEqual(self.passes(*self.LINE, ticks(7), state(1)), (3, 2))

    def test_passes_after_a_change_of_shares(self):
        line = [begin(2), job([9], shares=4), ticks(1)]
        self.assertEqual(self.passes(*line, state(0)), (1, 4))
        line += [change(0, 0, 6), ticks(1)]
        self.assertEqual(self.passes(*line, state(0)), (5, 12))
        line += [change(0, 0, 12), ticks(1)]
        self.assertEqual(self.passes(*line, state(0)), (1, 2))

    def test_passes_with_large_bottoms(self):
        line = [begin(2), job([9], shares=97), ticks(1), change(0, 0, 89), ticks(1), change(0, 0, 64), ticks(1)]
        # 1/97 + 1/89 + 1/64 = (5696 + 6208 + 8633) / 552512
        self.assertEqual(self.passes(*line, state(0)), (20537, 552512))

    def test_shares_of_hundred(self):
        line = [begin(2), job([50], shares=100), job([50], shares=1), ticks(50), state(0)]
        # Job 1 has time 1; job 0 all others, as its pass stays below 1.
        self.assertEqual(self.passes(*line), (49, 100))

    def test_coming_job_begins_at_the_floor(self):
        line = self.LINE + [job([2], comes=5), ticks(5)]
        # The floor is job 0's pass before its tick at time 4: 2/3.
        self.assertEqual(last(*line, ticks(1)), told_stretches((2, 1)))
        self.assertEqual(self.passes(*line, ticks(1), state(2)), (5, 3))

    def test_woken_job_keeps_the_greater_pass(self):
        line = [begin(2), job([1, -1, 1]), job([9], shares=10)]
        # Job 0 fell asleep with pass 1; the floor is 0 when it wakes at time 2.
        self.assertEqual(self.passes(*line, ticks(3), state(0)), (1, 1))
        self.assertEqual(last(*line, ticks(3)), told_stretches((0, 1), (1, 2)))

    def test_woken_job_is_lifted_to_the_floor(self):
        line = [begin(2), job([1, -5, 1], shares=10), job([9], shares=1)]
        # Ticks: job 0, then job 1 five times: the floor is 4 at time 6.
        self.assertEqual(self.passes(*line, ticks(6), state(0)), (1, 10))
        self.assertEqual(self.passes(*line, ticks(7), state(0)), (41, 10))

    def test_kill_between_ticks(self):
        line = self.LINE + [ticks(5), kill(1), ticks(3)]
        self.assertEqual(last(*line), told_stretches((0, 3)))


class ByDeadlines(unittest.TestCase):
    LINE = [begin(3), job([3], deadline=10), job([2], comes=1, deadline=5), job([1]), job([1], deadline=10)]

    def test_coming_and_deadline_together(self):
        self.assertEqual(last(*self.LINE, ticks(7)), told_stretches((0, 1), (1, 2), (0, 2), (3, 1), (2, 1)))

    def test_order_with_ties_and_none(self):
        self.assertEqual(last(*self.LINE, ticks(2), ORDER), [4, 1, 0, 3, 2])

    def test_later_coming_with_the_lesser_deadline_of_its_own(self):
        line = [begin(3), job([4], deadline=6), job([2], comes=2, deadline=5)]
        self.assertEqual(last(*line, ticks(6)), told_stretches((0, 4), (1, 2)))

    def test_jobs_without_deadline_go_by_number_alone(self):
        line = [begin(3), job([2], comes=2), job([4])]
        self.assertEqual(last(*line, ticks(6)), told_stretches((1, 2), (0, 2), (1, 2)))

    def test_no_deadline_is_behind_the_greatest_deadline(self):
        line = [begin(3), job([2]), job([2], deadline=1000), ticks(4)]
        self.assertEqual(last(*line), told_stretches((1, 2), (0, 2)))

    def test_naps_and_rounds(self):
        line = [begin(3), job([1, -2, 1], deadline=3, rounds=2), job([4], deadline=9)]
        # Job 0: work 0, nap to 3, works 3 and 4 (a new round), nap to 7, works 7.
        self.assertEqual(last(*line, ticks(8)), told_stretches((0, 1), (1, 2), (0, 2), (1, 2), (0, 1)))

    def test_kill_and_change_between_ticks(self):
        line = self.LINE + [ticks(1), change(2, 9, 100), kill(1), ticks(3)]
        self.assertEqual(last(*line), told_stretches((0, 2), (3, 1)))


class LeastLeft(unittest.TestCase):
    def test_fewer_ticks_left_of_the_part(self):
        line = [begin(4), job([4]), job([2], comes=1), job([1, 5], comes=1)]
        self.assertEqual(last(*line, ticks(12)), told_stretches((0, 1), (2, 1), (1, 2), (0, 3), (2, 5)))

    def test_alike_ones_go_by_number(self):
        line = [begin(4), job([3], comes=1), job([4]), job([3])]
        # At time 1 job 0 has 3 left, job 1 has 4, job 2 has 2.
        self.assertEqual(last(*line, ticks(10)), told_stretches((2, 3), (0, 3), (1, 4)))
        self.assertEqual(last(begin(4), job([4]), job([3]), job([3], comes=0), ticks(1), ORDER), [3, 1, 2, 0])
        self.assertEqual(last(begin(4), job([2]), job([2]), job([2]), ORDER), [0])
        self.assertEqual(last(begin(4), job([3], comes=1), job([4], comes=0), ticks(2)), told_stretches((1, 1), (0, 1)))

    def test_naps_and_rounds(self):
        line = [begin(4), job([2, -1, 1], rounds=2), job([5])]
        # Job 0: works 0 and 1, naps over 2, works 3; its new round has 2 left, job 1 has 4.
        self.assertEqual(last(*line, ticks(11)), told_stretches((0, 2), (1, 1), (0, 3), (1, 1), (0, 1), (1, 3)))

    def test_kill_and_change_between_ticks(self):
        line = [begin(4), job([1]), job([3]), job([2]), ticks(1), change(1, 9, 100), kill(2), ticks(2)]
        self.assertEqual(last(*line), told_stretches((1, 2)))


class ByLevels(unittest.TestCase):
    def level_and_used(self, *calls):
        told = named(last(*calls))
        return (told["level"], told["used"])

    def test_levels_fall_to_three_and_no_further(self):
        line = [begin(5), job([50])]
        for n, asked in [(1, (1, 0)), (2, (1, 1)), (3, (2, 0)), (6, (2, 3)), (7, (3, 0)), (10, (3, 3)),
                         (14, (3, 7)), (15, (3, 0)), (23, (3, 0)), (24, (3, 1))]:
            self.assertEqual(self.level_and_used(*line, ticks(n), state(0)), asked, n)

    def test_without_boost(self):
        line = [begin(5, boost=0), job([6]), job([3]), job([1], comes=4)]
        told = last(*line, ticks(10))
        self.assertEqual(told, told_stretches((0, 1), (1, 1), (0, 2), (2, 1), (1, 2), (0, 3)))

    def test_with_boost(self):
        line = [begin(5, boost=4), job([6]), job([6])]
        told = last(*line, ticks(12))
        self.assertEqual(told, told_stretches(
            (0, 1), (1, 1), (0, 2), (1, 1), (0, 1), (1, 2), (0, 1), (1, 1), (0, 1), (1, 1)))

    def test_boost_reaches_jobs_that_are_not_ready(self):
        line = [begin(5, boost=10), job([2, -50, 1]), job([3]), job([50]), job([50])]
        # Ticks to 7: 0, 1, 2, 3 (each to level 1), 0 (asleep), 1, 1 (done at 7).
        line += [ticks(7), kill(3), ticks(3)]
        self.assertEqual(self.level_and_used(*line, state(0)), (1, 1))
        self.assertEqual(self.level_and_used(*line, state(1)), (1, 2))
        self.assertEqual(self.level_and_used(*line, state(3)), (1, 0))
        line += [ticks(1)]
        for j in (0, 1, 3):
            self.assertEqual(self.level_and_used(*line, state(j)), (0, 0), j)
        self.assertEqual(self.level_and_used(*line, state(2)), (1, 0))

    def test_boost_takes_what_was_used(self):
        line = [begin(5, boost=2), job([50])]
        # Level 1 with 1 used at time 2; lifted, it falls to level 1 in one tick.
        self.assertEqual(self.level_and_used(*line, ticks(2), state(0)), (1, 1))
        self.assertEqual(self.level_and_used(*line, ticks(3), state(0)), (1, 0))

    def test_boost_of_one_and_of_hundred(self):
        two = [job([50, 50, 50]), job([50, 50, 50])]
        self.assertEqual(last(begin(5, boost=1), *two, ticks(4)), told_stretches((0, 1), (1, 1), (0, 1), (1, 1)))
        self.assertEqual(self.level_and_used(begin(5, boost=1), job([9]), ticks(2), state(0)), (1, 0))
        line = [begin(5, boost=100), *two, ticks(100)]
        self.assertEqual(self.level_and_used(*line, state(0))[0], 3)
        self.assertEqual(self.level_and_used(*line, ticks(2), state(0)), (1, 0))

    def test_boost_is_for_this_policy_alone(self):
        for policy in (3, 4):
            self.assertEqual(self.level_and_used(begin(policy, boost=2), job([9]), ticks(5), state(0)), (0, 5))

    def test_level_stays_over_a_nap_and_used_does_not(self):
        line = [begin(5), job([2, -1, 3])]
        self.assertEqual(self.level_and_used(*line, ticks(2), state(0)), (1, 1))
        # Made ready at time 3 with nothing used, it runs on level 1.
        self.assertEqual(self.level_and_used(*line, ticks(4), state(0)), (1, 1))
        self.assertEqual(self.level_and_used(*line, ticks(5), state(0)), (2, 0))

    def test_kill_and_change_between_ticks(self):
        line = [begin(5), job([9]), job([9]), job([9]), ticks(3), change(2, 9, 100), kill(0), ticks(4)]
        self.assertEqual(last(*line), told_stretches((1, 2), (2, 2)))


class EveryPolicy(unittest.TestCase):
    def test_used_and_turns_by_policy(self):
        # Two jobs alike: who goes tick by tick, and what the first has used then.
        asked = {0: ([0, 0, 1, 1, 0, 0], 0), 1: ([0, 1, 0, 1, 0, 1], 3), 2: ([0, 1, 0, 1, 0, 1], 3),
                 3: ([0] * 6, 6), 4: ([0] * 6, 6), 5: ([0, 1, 0, 0, 1, 1], 0)}
        for policy, (went, used) in asked.items():
            line = [begin(policy, slice_ticks=2), job([20], deadline=50), job([20], deadline=50)]
            told = run(*line, *[ticks(1)] * 6, state(0))
            self.assertEqual([stretch[1] for stretch in told[3:9]], went, policy)
            self.assertEqual(named(told[-1])["used"], used, policy)

    def test_sleepers_with_alike_waking_times(self):
        # Job 1 falls asleep first and wakes at 6 as job 0 does, so it gets the lesser turn.
        line = [begin(1, age=0), job([1, -4, 5], urgency=1), job([1, -5, 5], urgency=2), ticks(2)]
        self.assertEqual(last(*line, SLEEPERS), [2, 1, 6, 0, 6])
        line += [change(0, 2, 1), ticks(5)]
        self.assertEqual(last(*line), told_stretches((-1, 4), (1, 1)))

    def test_sleepers_wake_before_coming_jobs_are_made_ready(self):
        line = [begin(0), job([5], comes=3), job([1, -2, 5]), ticks(4)]
        self.assertEqual(last(*line), told_stretches((1, 1), (-1, 2), (1, 1)))

    def test_coming_jobs_are_made_ready_by_number(self):
        line = [begin(0), job([1], comes=2), job([1], comes=2), job([1], comes=1), ticks(4)]
        self.assertEqual(last(*line), told_stretches((-1, 1), (2, 1), (0, 1), (1, 1)))


if __name__ == "__main__":
    unittest.main()
