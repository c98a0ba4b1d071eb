"""The calls once and tight, worked out by hand from the document's words."""

import unittest

from tests.helper import again, begin, job, last, once, run, ticks, tight


class Once(unittest.TestCase):
    def test_no_threes(self):
        self.assertEqual(last(once([])), [1, 0])

    def test_one_early_in_time_and_late(self):
        self.assertEqual(last(once([0, 2, 5])), [1, -3, 2])
        self.assertEqual(last(once([0, 2, 2])), [1, 0, 2])
        self.assertEqual(last(once([0, 2, 1])), [0, 1, 2])

    def test_least_and_greatest_numbers(self):
        self.assertEqual(last(once([0, 1, 0])), [0, 1, 1])
        self.assertEqual(last(once([60, 20, 200])), [1, -120, 80])
        self.assertEqual(last(once([60, 20, 0])), [0, 80, 80])
        self.assertEqual(last(once([0, 20, 200] * 12)), [0, 40] + list(range(20, 241, 20)))
        self.assertEqual(last(once([60, 20, 200] * 12)), [0, 100] + list(range(80, 301, 20)))

    def test_the_least_due_time_has_the_tick(self):
        self.assertEqual(last(once([0, 2, 9, 0, 1, 8, 0, 3, 7])), [1, -3, 6, 4, 3])

    def test_one_that_may_run_later_takes_over(self):
        # 0 1 1 0 0 0
        self.assertEqual(last(once([0, 4, 10, 1, 2, 4])), [1, -1, 6, 3])

    def test_equal_due_times_go_as_told(self):
        self.assertEqual(last(once([0, 2, 5, 0, 1, 5])), [1, -2, 2, 3])
        self.assertEqual(last(once([0, 1, 5, 0, 2, 5])), [1, -2, 1, 3])
        # 1 0 0 1 1: the first told takes over as soon as it may run.
        self.assertEqual(last(once([1, 2, 5, 0, 3, 5])), [1, 0, 3, 5])
        # 0 0 1 1 1: the one told later does not.
        self.assertEqual(last(once([0, 2, 5, 1, 3, 5])), [1, 0, 2, 5])

    def test_idle_ticks_between(self):
        self.assertEqual(last(once([0, 1, 3, 4, 2, 9])), [1, -2, 1, 6])
        self.assertEqual(last(once([7, 1, 8])), [1, 0, 8])

    def test_the_greatest_lateness_is_of_any_of_them(self):
        self.assertEqual(last(once([0, 3, 2, 0, 2, 3])), [0, 2, 3, 5])
        self.assertEqual(last(once([0, 3, 1, 0, 2, 9])), [0, 2, 3, 5])

    def test_due_before_it_may_run(self):
        self.assertEqual(last(once([9, 2, 4])), [0, 7, 11])


class Tight(unittest.TestCase):
    def test_none(self):
        self.assertEqual(last(tight([])), [0])
        self.assertEqual(last(tight([0, 2, 2, 0, 1, 3])), [0])
        self.assertEqual(last(tight([0, 1, 1, 5, 1, 9])), [0])
        self.assertEqual(last(tight([60, 20, 200] * 7)), [0])

    def test_just_as_much_and_one_more_than_there_is_time(self):
        self.assertEqual(last(tight([3, 4, 7])), [0])
        self.assertEqual(last(tight([3, 5, 7])), [1, 3, 7, 5])

    def test_least_and_greatest_numbers(self):
        self.assertEqual(last(tight([0, 1, 0])), [1, 0, 0, 1])
        self.assertEqual(last(tight([60, 20, 200] * 12)), [1, 60, 200, 240])
        self.assertEqual(last(tight([60, 20, 0] * 12)), [1, 60, 0, 240])

    def test_the_least_b(self):
        # Between 0 and 9 are 12, but b is 6 already between 4 and 6.
        self.assertEqual(last(tight([0, 1, 10, 4, 3, 6, 0, 9, 9])), [1, 4, 6, 3])

    def test_the_least_a_for_it(self):
        # By 2, from 1 on are 2 asked and from 0 on 5.
        self.assertEqual(last(tight([1, 2, 2, 0, 3, 2, 0, 9, 20])), [1, 0, 2, 5])
        # By 5, from 0 on are 5 asked, from 3 and from 4 on too much.
        self.assertEqual(last(tight([4, 2, 5, 3, 1, 5, 0, 2, 5])), [1, 3, 5, 3])

    def test_not_what_may_run_before_a_or_is_due_behind_b(self):
        self.assertEqual(last(tight([0, 9, 12, 2, 2, 4, 2, 6, 14])), [1, 0, 14, 17])
        self.assertEqual(last(tight([0, 6, 12, 2, 2, 4, 2, 6, 14])), [0])

    def test_b_less_than_a(self):
        self.assertEqual(last(tight([5, 1, 3])), [1, 5, 3, 1])
        self.assertEqual(last(tight([9, 1, 4, 0, 5, 5])), [1, 9, 4, 1])
        # The least a from which some may run: 6, though that one is due later.
        self.assertEqual(last(tight([9, 1, 4, 6, 2, 30])), [1, 6, 4, 1])
        self.assertEqual(last(tight([9, 3, 4, 8, 2, 2])), [1, 8, 2, 2])

    def test_b_equal_to_a(self):
        self.assertEqual(last(tight([5, 1, 5])), [1, 5, 5, 1])


class WithoutAndWithAMachine(unittest.TestCase):
    def test_answer_alike(self):
        rows = [once([0, 3, 2, 0, 2, 3]), tight([0, 3, 2, 0, 2, 3]), once([]), tight([])]
        alone = run(*rows)
        self.assertEqual(alone, [[0, 2, 3, 5], [1, 0, 2, 3], [1, 0], [0]])
        self.assertEqual(run(begin(3), job([5]), ticks(2), *rows)[3:], alone)

    def test_begin_nothing(self):
        self.assertEqual(run(once([]), tight([]), again([1, 1, 1]), ticks(1))[-1], [-1])


if __name__ == "__main__":
    unittest.main()
