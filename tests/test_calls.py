"""The calls begin to trace: what they answer on ordinary inputs and at their edges."""

import unittest

from tests.helper import (ORDER, SLEEPERS, begin, change, job, kill, last, named, run, state, ticks, told_stretches,
                          trace, until_over)

FRESH = [0, 0, 0, 0, 0, 0, 0, 0, 0, 1, 0, 0, 0]


class Begin(unittest.TestCase):
    def test_least_and_greatest_arguments(self):
        for call in ([0, 0, 1, 0, 0], [0, 5, 20, 20, 100]):
            self.assertEqual(run(call), [[0]])

    def test_begun_already_is_a_new_machine(self):
        told = run(begin(0), job([5]), ticks(3), begin(3), ORDER, SLEEPERS, trace(0, 200), state(0), job([2]), state(0))
        self.assertEqual(told[3:], [[0], [0], [0], [0], [-2], [0], FRESH])

    def test_new_machine_has_its_own_policy_slice_age_and_boost(self):
        two = [job([9], urgency=1), job([9], urgency=0)]
        asked = told_stretches((0, 2), (1, 1))
        self.assertEqual(last(begin(0, 1), *two, begin(0, 2), *two, ticks(3)), asked)
        self.assertEqual(last(begin(1, age=0), *two, begin(1, age=2), *two, ticks(3)), asked)
        line = [begin(5, boost=0), *two, begin(5, boost=1), *two, ticks(3)]
        self.assertEqual(last(*line), told_stretches((0, 1), (1, 1), (0, 1)))

    def test_new_machine_begins_at_time_0(self):
        line = [begin(2), job([9], shares=2), ticks(9), begin(2), job([1]), ticks(1), state(0)]
        self.assertEqual(run(*line)[-3:], [[0], [1, 0, 1], [3, 0, 0, 0, 0, 0, 1, 0, 1, 1, 1, 1, 0]])

    def test_jobs_may_be_told_anew(self):
        told = run(begin(0), *[job([1])] * 16, begin(0), job([1]))
        self.assertEqual(told[-1], [0])


class TellJob(unittest.TestCase):
    def test_numbers_from_0_on(self):
        self.assertEqual(run(begin(0), *[job([1])] * 16)[1:], [[j] for j in range(16)])

    def test_least_and_greatest_arguments(self):
        self.assertEqual(last(begin(0), [1, 0, 0, 1, 0, 1, 1, 1]), [0])
        self.assertEqual(last(begin(0), [1, 500, 9, 100, 1000, 10, 1, 50]), [0])

    def test_parts_as_told(self):
        for parts in ([1], [50], [1, 1], [1, -1, 1], [1, -100, 50], [1, -1, 1, -1, 1], [3] * 12, [1, -9] * 5 + [1, 1]):
            self.assertEqual(last(begin(0), job(parts)), [0], parts)

    def test_may_come_now(self):
        told = run(begin(0), ticks(5), job([1], comes=5), state(0), ORDER, ticks(1))
        self.assertEqual(told[2:], [[0], FRESH, [0], told_stretches((0, 1))])

    def test_refused_job_takes_no_number(self):
        told = run(begin(0), job([0]), job([1]), ticks(2), job([1], comes=1), job([1], comes=2))
        self.assertEqual(told, [[0], [-2], [0], told_stretches((0, 1), (-1, 1)), [-4], [1]])

    def test_comes_when_told(self):
        line = [begin(0), job([1], comes=500), *[ticks(200)] * 2, ticks(101)]
        self.assertEqual(last(*line), told_stretches((-1, 100), (0, 1)))

    def test_greatest_nap_and_rounds(self):
        line = [begin(0), job([1, -100, 1], rounds=10), until_over(1000), until_over(1000), state(0)]
        # Ten rounds of 102 ticks each.
        self.assertEqual(run(*line)[2:4], [[0, 1000], [1, 20]])
        self.assertEqual(last(*line), [3, 2, 0, 9, 1019, 0, 1, 0, 20, 1, 20, 1020, 0])


class Ticks(unittest.TestCase):
    def test_stretches_of_these_ticks_alone(self):
        told = run(begin(3), job([3], comes=1), ticks(2), ticks(1), ticks(3))
        self.assertEqual(told[2:], [told_stretches((-1, 1), (0, 1)), told_stretches((0, 1)),
                                    told_stretches((0, 1), (-1, 2))])

    def test_without_jobs(self):
        self.assertEqual(last(begin(0), ticks(200)), [1, -1, 200])
        self.assertEqual(last(begin(0), ticks(1)), [1, -1, 1])

    def test_one_job_in_several_parts_and_rounds_is_one_stretch(self):
        self.assertEqual(last(begin(0), job([2, 1], rounds=3), ticks(9)), [1, 0, 9])

    def test_up_to_time_3000(self):
        full = [ticks(200)] * 15
        self.assertEqual(last(begin(0), *full), [1, -1, 200])
        self.assertEqual(last(begin(0), *full, ticks(1)), [-5])
        self.assertEqual(last(begin(0), *full[1:], ticks(199), ticks(2)), [-5])
        self.assertEqual(last(begin(0), *full[1:], ticks(199), ticks(1)), [1, -1, 1])

    def test_job_that_comes_goes_on_beyond_500(self):
        told = run(begin(0), *[ticks(200)] * 3, job([1], comes=500))
        self.assertEqual(told[-1], [-4])


class UntilOver(unittest.TestCase):
    def test_no_jobs(self):
        self.assertEqual(run(begin(0), until_over(1000), trace(0, 200))[1:], [[1, 0], [0]])

    def test_stops_when_all_are_over(self):
        told = run(begin(0), job([2]), job([1], comes=4), until_over(1000), trace(0, 200), until_over(1))
        self.assertEqual(told[3:], [[1, 5], told_stretches((0, 2), (-1, 2), (1, 1)), [1, 0]])

    def test_stops_at_n(self):
        told = run(begin(0), job([5]), until_over(1), until_over(3), until_over(1), until_over(1))
        self.assertEqual(told[2:], [[0, 1], [0, 3], [1, 1], [1, 0]])

    def test_killed_counts_as_over(self):
        told = run(begin(0), job([5]), job([1]), kill(0), until_over(9), kill(1))
        self.assertEqual(told[3:], [[0], [1, 1], [-6]])

    def test_all_killed(self):
        self.assertEqual(last(begin(0), job([5]), kill(0), until_over(9)), [1, 0])

    def test_asleep_and_coming_are_not_over(self):
        told = run(begin(0), job([1, -5, 1]), job([1], comes=9), until_over(2), until_over(5), until_over(1000))
        self.assertEqual(told[3:], [[0, 2], [0, 5], [1, 3]])

    def test_beyond_3000_even_if_fewer_would_go_by(self):
        line = [begin(0), *[ticks(200)] * 10]
        self.assertEqual(last(*line, until_over(1000)), [1, 0])
        self.assertEqual(last(*line, ticks(1), until_over(1000)), [-5])
        self.assertEqual(last(*line, ticks(1), until_over(999)), [1, 0])


class Kill(unittest.TestCase):
    def test_ready_job(self):
        told = run(begin(0), job([5]), ticks(2), kill(0), state(0), ORDER, ticks(1))
        self.assertEqual(told[3:], [[0], [4, 0, 3, 0, 0, 0, 0, 0, 2, 1, 2, 2, 0], [0], [1, -1, 1]])

    def test_coming_job_at_time_0(self):
        told = run(begin(0), job([5], comes=3), kill(0), state(0), ticks(5))
        self.assertEqual(told[2:], [[0], [4] + FRESH[1:], [1, -1, 5]])

    def test_job_asleep(self):
        told = run(begin(0), job([1, -3, 2]), ticks(2), kill(0), SLEEPERS, state(0), ticks(9))
        self.assertEqual(told[3:6], [[0], [0], [4, 1, 0, 0, 4, 0, 1, 0, 1, 1, 1, 2, 0]])
        self.assertEqual(told[6], [1, -1, 9])

    def test_done_or_killed(self):
        told = run(begin(0), job([1]), job([5]), kill(1), kill(1), ticks(1), kill(0), state(0), state(1))
        self.assertEqual(told[3:5] + told[6:7], [[0], [-6], [-6]])
        self.assertEqual([named(told[-2])["stands"], named(told[-2])["ended"]], [3, 1])
        self.assertEqual([named(told[-1])["stands"], named(told[-1])["ended"]], [4, 0])

    def test_killed_jobs_wait_no_more(self):
        told = run(begin(3), job([9]), job([9]), ticks(2), kill(1), ticks(4), state(1))
        self.assertEqual((named(told[-1])["waited"], named(told[-1])["longest"]), (2, 2))

    def test_the_other_jobs_stay(self):
        told = run(begin(0, slice_ticks=3), job([9]), job([9]), ticks(1), kill(1), ticks(4), state(0))
        self.assertEqual(told[5], [1, 0, 4])
        self.assertEqual(named(told[-1])["used"], 2)


class Change(unittest.TestCase):
    def test_waited_is_0_and_the_longest_stays(self):
        told = run(begin(3), job([9]), job([9]), ticks(4), change(1, 9, 100), state(1), ticks(2), state(1))
        self.assertEqual(told[4], [0])
        self.assertEqual(told[5], [1, 0, 9, 0, 0, 0, 0, 0, 0, 1, 0, 0, 4])
        self.assertEqual(told[7], [1, 0, 9, 0, 0, 2, 0, 0, 0, 1, 0, 0, 4])

    def test_keeps_turn_slice_pass_and_current(self):
        told = run(begin(0, slice_ticks=3), job([9]), job([9]), ticks(1), change(0, 9, 7), ticks(3), state(0))
        self.assertEqual(told[5], told_stretches((0, 2), (1, 1)))
        # 1 tick with 1 share, 2 with 7 of them.
        self.assertEqual(told[6], [1, 0, 6, 0, 0, 1, 0, 0, 9, 7, 3, 0, 1])

    def test_least_and_greatest_arguments(self):
        for call in (change(0, 0, 1), change(0, 9, 100), change(1, 0, 1)):
            self.assertEqual(last(begin(0), job([1]), job([1]), call), [0])

    def test_coming_and_asleep(self):
        line = [begin(1), job([1, -1, 1], urgency=9), job([5], comes=2, urgency=5), ticks(1)]
        line += [change(0, 3, 1), change(1, 4, 1)]
        self.assertEqual(run(*line)[-2:], [[0], [0]])
        self.assertEqual(last(*line, ticks(7)), told_stretches((-1, 1), (1, 5), (0, 1)))

    def test_done_or_killed(self):
        told = run(begin(0), job([1]), job([5]), kill(1), ticks(1), change(0, 1, 1), change(1, 1, 1))
        self.assertEqual(told[-2:], [[-6], [-6]])


class State(unittest.TestCase):
    def test_before_it_comes(self):
        self.assertEqual(last(begin(2), job([3], comes=1), ticks(1), state(0)), FRESH)

    def test_ready_running_asleep_and_done(self):
        line = [begin(0, slice_ticks=9), job([2, -3, 1, 4], shares=5, rounds=2)]
        asked = {
            1: [1, 0, 1, 0, 0, 0, 1, 0, 1, 5, 1, 0, 0],
            2: [2, 1, 0, 0, 5, 0, 2, 0, 2, 5, 2, 0, 0],
            4: [2, 1, 0, 0, 5, 0, 2, 0, 2, 5, 2, 0, 0],
            5: [2, 1, 0, 0, 5, 0, 2, 0, 2, 5, 2, 0, 0],
            6: [1, 3, 4, 0, 5, 0, 1, 0, 3, 5, 3, 0, 0],
            9: [1, 3, 1, 0, 5, 0, 4, 0, 6, 5, 6, 0, 0],
            10: [1, 0, 2, 1, 5, 0, 5, 0, 7, 5, 7, 0, 0],
            12: [2, 1, 0, 1, 15, 0, 7, 0, 9, 5, 9, 0, 0],
            20: [3, 3, 0, 1, 15, 0, 5, 0, 14, 5, 14, 20, 0],
            29: [3, 3, 0, 1, 15, 0, 5, 0, 14, 5, 14, 20, 0],
        }
        for n, told in asked.items():
            self.assertEqual(last(*line, ticks(n), state(0)), told, n)

    def test_waited_and_the_longest_wait(self):
        line = [begin(0, slice_ticks=3), job([9]), job([1, 9])]
        for n, waited, longest in [(1, 1, 1), (3, 3, 3), (4, 0, 3), (7, 1, 3), (9, 3, 3), (10, 0, 3)]:
            told = named(last(*line, ticks(n), state(1)))
            self.assertEqual((told["waited"], told["longest"]), (waited, longest), n)

    def test_waited_is_0_when_made_ready(self):
        # Job 1 waits 2, works, naps, and waits anew.
        line = [begin(3), job([2, -1, 3], deadline=3), job([1, -1, 1])]
        self.assertEqual(named(last(*line, ticks(2), state(1)))["waited"], 2)
        told = named(last(*line, ticks(5), state(1)))
        self.assertEqual((told["waited"], told["longest"]), (1, 2))


class Order(unittest.TestCase):
    def test_none_ready(self):
        self.assertEqual(last(begin(0), ORDER), [0])
        self.assertEqual(last(begin(0), job([1]), ORDER), [0])
        self.assertEqual(last(begin(0), job([1]), ticks(1), ORDER), [0])

    def test_only_ready_ones(self):
        line = [begin(3), job([1, -9, 1], deadline=1), job([1], deadline=2), job([3]), job([3], deadline=9)]
        line += [job([3], comes=9), job([3]), kill(5), ticks(2)]
        self.assertEqual(last(*line, ORDER), [2, 3, 2])

    def test_sleepers_whose_time_is_now_wake_with_the_tick(self):
        line = [begin(0), job([1, -1, 2]), ticks(2)]
        self.assertEqual(run(*line, ORDER, SLEEPERS)[-2:], [[0], [1, 0, 2]])
        self.assertEqual(run(*line, ticks(1), ORDER, SLEEPERS)[-2:], [[1, 0], [0]])

    def test_asking_changes_nothing(self):
        line = [begin(0, slice_ticks=2), job([2, -2, 2]), job([7]), job([3])]
        plain = run(*line, *[ticks(1)] * 14)[4:]
        asked = run(*line, *[ticks(1), ORDER, SLEEPERS, state(0), trace(0, 5)] * 14)[4::5]
        self.assertEqual(plain, asked)


class Sleepers(unittest.TestCase):
    def test_none(self):
        self.assertEqual(last(begin(0), SLEEPERS), [0])

    def test_by_waking_times(self):
        line = [begin(0), job([1, -9, 1]), job([1, -2, 1]), job([1, -5, 1]), ticks(3)]
        self.assertEqual(last(*line, SLEEPERS), [3, 1, 4, 2, 8, 0, 10])

    def test_alike_ones_as_they_fell_asleep(self):
        line = [begin(3), job([1, -4, 1], deadline=9), job([1, -5, 1], deadline=3), job([1, -3, 1])]
        self.assertEqual(last(*line, ticks(3), SLEEPERS), [3, 1, 6, 0, 6, 2, 6])


class Trace(unittest.TestCase):
    LINE = [begin(0, slice_ticks=2), job([3]), job([3]), ticks(8)]

    def test_whole_and_parts_of_it(self):
        asked = {
            (0, 200): told_stretches((0, 2), (1, 2), (0, 1), (1, 1), (-1, 2)),
            (0, 8): told_stretches((0, 2), (1, 2), (0, 1), (1, 1), (-1, 2)),
            (0, 1): told_stretches((0, 1)),
            (1, 4): told_stretches((0, 1), (1, 2), (0, 1)),
            (5, 2): told_stretches((1, 1), (-1, 1)),
            (3, 0): [0],
            (7, 200): told_stretches((-1, 1)),
            (8, 0): [0],
            (8, 200): [0],
        }
        for (a, n), told in asked.items():
            self.assertEqual(last(*self.LINE, trace(a, n)), told, (a, n))

    def test_before_any_tick(self):
        self.assertEqual(last(begin(0), trace(0, 200)), [0])

    def test_over_several_calls(self):
        told = run(begin(0), job([9]), ticks(2), ticks(3), until_over(2), trace(1, 200))
        self.assertEqual(told[-1], told_stretches((0, 6)))

    def test_at_most_200_of_more(self):
        told = run(begin(0), *[ticks(200)] * 2, trace(0, 200), trace(100, 200), trace(300, 200))
        self.assertEqual(told[-3:], [[1, -1, 200], [1, -1, 200], [1, -1, 100]])


if __name__ == "__main__":
    unittest.main()
