"""The calls demand, again, response and ranked, worked out by hand from the document's words."""

import unittest

from tests.helper import again, begin, demand, job, last, ranked, response, run, ticks


class Demand(unittest.TestCase):
    def test_just_before_and_at_due_times(self):
        for t, told in [(0, 0), (2, 0), (3, 2), (6, 2), (7, 4), (10, 4), (11, 6), (10000, 5000)]:
            self.assertEqual(last(demand([4, 2, 3], t)), [told], t)

    def test_due_at_the_period(self):
        for t, told in [(0, 0), (3, 0), (4, 3), (7, 3), (8, 6)]:
            self.assertEqual(last(demand([4, 3, 4], t)), [told], t)

    def test_several_kinds(self):
        for t, told in [(5, 2), (6, 3), (11, 7), (12, 8)]:
            self.assertEqual(last(demand([4, 2, 3, 6, 1, 6], t)), [told], t)

    def test_least_and_greatest_numbers(self):
        self.assertEqual(run(demand([1, 1, 1], 0), demand([1, 1, 1], 1), demand([1, 1, 1], 10000)),
                         [[0], [1], [10000]])
        self.assertEqual(last(demand([1, 12, 1] * 6, 10000)), [720000])
        # Due at 12, 24 .. 9996: 833 of each.
        self.assertEqual(last(demand([12, 12, 12] * 6, 10000)), [833 * 12 * 6])
        self.assertEqual(last(demand([12, 12, 1], 1)), [12])


class Again(unittest.TestCase):
    def test_never_too_much(self):
        self.assertEqual(last(again([2, 1, 2, 3, 1, 3])), [1, 6])
        self.assertEqual(last(again([4, 1, 2, 6, 2, 5, 12, 1, 12])), [1, 12])

    def test_just_as_much_as_there_is_time(self):
        self.assertEqual(last(again([1, 1, 1])), [1, 1])
        self.assertEqual(last(again([2, 1, 2, 4, 2, 4])), [1, 4])
        self.assertEqual(last(again([12, 12, 12])), [1, 12])

    def test_the_first_time_with_too_much(self):
        self.assertEqual(last(again([2, 1, 1, 2, 1, 1])), [0, 2, 1, 2])
        self.assertEqual(last(again([12, 12, 1])), [0, 12, 1, 12])
        # Demand 1 at 2, 3 at 3, 4 at 4, 7 at 6.
        self.assertEqual(last(again([2, 1, 2, 3, 2, 3])), [0, 6, 6, 7])
        # Demand 2 at 3, 2 * 2 + 2 + 2 at 7.
        self.assertEqual(last(again([4, 2, 3, 8, 2, 7, 8, 2, 7])), [0, 8, 7, 8])

    def test_too_much_ahead_of_the_round_alone(self):
        # Asked together is less than there is time, but two are due at 1.
        self.assertEqual(last(again([12, 1, 1, 10, 1, 1])), [0, 60, 1, 2])

    def test_rounds(self):
        for periods, told in [([1], 1), ([12], 12), ([4, 6], 12), ([6, 6], 6), ([2, 4, 8], 8), ([5, 7], 35),
                              ([8, 12], 24), ([9, 12], 36), ([7, 11], 77)]:
            row = [number for period in periods for number in (period, 1, period)]
            self.assertEqual(last(again(row)), [1, told], periods)

    def test_the_greatest_round(self):
        self.assertEqual(last(again([12, 1, 12, 11, 1, 11, 10, 1, 10, 9, 1, 9, 8, 1, 8, 7, 1, 7])), [1, 27720])

    def test_the_greatest_round_with_too_much(self):
        self.assertEqual(last(again([12, 12, 12, 11, 1, 11, 10, 1, 10, 9, 1, 9, 8, 1, 8, 7, 1, 7])),
                         [0, 27720, 12, 17])

    def test_too_much_late_in_a_long_round(self):
        # At 2520: 280 * (2 + 3 + 1) + 360 + 252 + 229.
        row = [9, 2, 9, 9, 3, 9, 9, 1, 9, 7, 1, 7, 10, 1, 10, 11, 1, 11]
        self.assertEqual(last(again(row)), [0, 6930, 2520, 2521])
        self.assertEqual(last(demand(row, 2520)), [2521])
        for first in range(0, 2520, 280):
            for t, told in enumerate(run(*[demand(row, first + k) for k in range(280)]), start=first):
                self.assertLessEqual(told[0], t)


class Response(unittest.TestCase):
    def test_each_kind(self):
        # The third: 3, 6, 7, 9, 10, 10.
        self.assertEqual(last(response([4, 1, 4, 6, 2, 6, 12, 3, 12])), [1, 1, 1, 3, 1, 10])

    def test_none_for_the_last(self):
        self.assertEqual(last(response([4, 1, 4, 6, 2, 6, 12, 3, 10])), [1, 1, 1, 3, 1, 10])
        self.assertEqual(last(response([4, 1, 4, 6, 2, 6, 12, 3, 9])), [1, 1, 1, 3, 0])
        self.assertEqual(last(response([1, 1, 1, 12, 1, 12])), [1, 1, 0])

    def test_none_for_the_first(self):
        self.assertEqual(last(response([4, 3, 2, 12, 1, 12])), [0, 1, 4])
        self.assertEqual(last(response([12, 12, 11])), [0])

    def test_none_between(self):
        # The third: 1, 4, 5, 7, 8, 8.
        self.assertEqual(last(response([3, 1, 3, 4, 2, 2, 12, 1, 12])), [1, 1, 0, 1, 8])

    def test_just_when_due(self):
        self.assertEqual(last(response([5, 5, 5])), [1, 5])
        self.assertEqual(last(response([5, 5, 4])), [0])

    def test_least_and_greatest_numbers(self):
        self.assertEqual(last(response([1, 1, 1])), [1, 1])
        self.assertEqual(last(response([12, 2, 12] * 6)), [1, 2, 1, 4, 1, 6, 1, 8, 1, 10, 1, 12])
        self.assertEqual(last(response([12, 12, 12] * 6)), [1, 12, 0, 0, 0, 0, 0])

    def test_ranks_go_as_told(self):
        self.assertEqual(last(response([4, 1, 4, 12, 3, 12])), [1, 1, 1, 4])
        self.assertEqual(last(response([12, 3, 12, 4, 1, 4])), [1, 3, 1, 4])


class Ranked(unittest.TestCase):
    def test_no_ticks(self):
        self.assertEqual(last(ranked([3, 1, 3, 0], 0)), [0, 0])
        self.assertEqual(last(ranked([1, 1, 1, 0] * 6, 0)), [0, 0] * 6)

    def test_one_kind(self):
        # Done at 2, 5, 8.
        for n, told in [(1, [0, 0]), (2, [1, 2]), (4, [1, 2]), (5, [2, 2]), (8, [3, 2]), (10, [3, 2])]:
            self.assertEqual(last(ranked([3, 2, 3, 0], n)), told, n)

    def test_higher_ranks_go_first(self):
        # 0 1 1 1 0 - 1 1 0 1 - -
        self.assertEqual(last(ranked([4, 1, 4, 0, 6, 3, 6, 0], 12)), [3, 1, 2, 4])
        # 0 0 0 1 1 - 0 0 0 1 - -
        self.assertEqual(last(ranked([6, 3, 6, 0, 4, 1, 4, 0], 12)), [2, 3, 3, 4])

    def test_kinds_that_begin_late(self):
        # 1 1 - 0 0 1 1 0 0 -
        self.assertEqual(last(ranked([4, 2, 4, 3, 5, 2, 5, 0], 10)), [2, 2, 2, 2])
        # 1 1 - - - 1 0 0 1 -
        self.assertEqual(last(ranked([4, 2, 4, 6, 5, 2, 5, 0], 10)), [1, 2, 2, 4])

    def test_beginning_of_thirty(self):
        self.assertEqual(last(ranked([12, 1, 12, 30], 30)), [0, 0])
        self.assertEqual(last(ranked([12, 1, 12, 30], 31)), [1, 1])
        self.assertEqual(last(ranked([1, 1, 1, 30], 300)), [270, 1])

    def test_kinds_that_are_never_done(self):
        self.assertEqual(last(ranked([1, 1, 1, 0, 5, 1, 5, 0], 300)), [300, 1, 0, 0])
        self.assertEqual(last(ranked([12, 12, 12, 0], 11)), [0, 0])

    def test_more_asked_than_there_are_ticks(self):
        # Comings at 0, 2, 4, 6 are done at 3, 6, 9, 12, the oldest first.
        self.assertEqual(last(ranked([2, 3, 2, 0, 9, 1, 9, 0], 11)), [3, 5, 0, 0])
        self.assertEqual(last(ranked([2, 3, 2, 0, 9, 1, 9, 0], 12)), [4, 6, 0, 0])
        self.assertEqual(last(ranked([1, 12, 1, 0], 300)), [25, 276])

    def test_due_times_do_not_matter(self):
        for due in (1, 5, 6):
            self.assertEqual(last(ranked([4, 1, 1, 0, 6, 3, due, 0], 12)), [3, 1, 2, 4])

    def test_greatest_numbers(self):
        # One kind after another from 30 on; the first comes anew at 42.
        self.assertEqual(last(ranked([12, 12, 12, 30] * 6, 300)), [22, 12] + [0, 0] * 5)
        self.assertEqual(last(ranked([12, 2, 12, 30] * 6, 300)), [23, 2, 23, 4, 23, 6, 22, 8, 22, 10, 22, 12])

    def test_longest_of_all_that_were_done(self):
        # 1 1 0 0 - 1 0 0 1 - 0 0 1 1 0 0 1 1: the second kind's take 2, 4, 4, 3.
        row = [4, 2, 4, 2, 5, 2, 5, 0]
        for n, told in [(2, [0, 0, 1, 2]), (9, [2, 2, 2, 4]), (14, [3, 2, 3, 4]), (18, [4, 2, 4, 4])]:
            self.assertEqual(last(ranked(row, n)), told, n)


class WithAMachine(unittest.TestCase):
    def test_answer_alike(self):
        rows = [demand([4, 2, 3], 11), again([2, 1, 2, 3, 2, 3]), response([4, 1, 4, 6, 2, 6]),
                ranked([4, 1, 4, 0, 6, 3, 6, 0], 12)]
        alone = run(*rows)
        self.assertEqual(alone, [[6], [0, 6, 6, 7], [1, 1, 1, 3], [3, 1, 2, 4]])
        self.assertEqual(run(begin(5), job([5]), ticks(2), *rows)[3:], alone)


if __name__ == "__main__":
    unittest.main()
