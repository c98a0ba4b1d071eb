"""How calls are told in one list, what list is given back, and what the program leaves alone."""

import contextlib
import io
import pathlib
import subprocess
import sys
import unittest

from jobsched.scheduler import answers
from tests.helper import (ORDER, SLEEPERS, TOTALS, again, apart, begin, bound, change, compare, demand, job, kill, once,
                          ranked, response, state, ticks, tight, trace, until_over)

LINE = [number for call in (
    begin(2, 3, 2, 5), job([3, -2, 1], shares=3), job([2], shares=2, comes=1, rounds=2), ticks(3), ORDER, SLEEPERS,
    state(0), change(1, 4, 5), ticks(0), kill(0), kill(0), until_over(9), trace(0, 200), begin(9, 1), state(1),
    TOTALS, compare(50), bound(1), once([0, 3, 2, 4, 2, 5]), tight([0, 3, 2, 4, 2, 5]), demand([4, 2, 3, 6, 1, 6], 9),
    again([2, 1, 2, 3, 2, 3]), response([4, 1, 4, 6, 2, 6]), ranked([4, 1, 4, 0, 6, 3, 6, 2], 30), once([1]),
    demand([1, 1, 1], -1), ranked([], 4), compare(0), TOTALS,
) for number in call]


class OneList(unittest.TestCase):
    def test_counts_stand_before_the_answers(self):
        line = begin(0) + job([2, -1, 1]) + ticks(2) + ORDER + SLEEPERS + state(0) + kill(0) + kill(0) + trace(0, 9)
        self.assertEqual(answers(line), [
            1, 0, 1, 0, 3, 1, 0, 2, 1, 0, 3, 1, 0, 3,
            13, 2, 1, 0, 0, 3, 0, 1, 0, 2, 1, 2, 0, 0,
            1, 0, 1, -6, 3, 1, 0, 2])

    def test_counts_of_the_calls_on_rows(self):
        line = once([0, 2, 1, 3, 1, 9]) + tight([0, 2, 1]) + tight([]) + demand([4, 2, 3], 7) + again([2, 1, 2])
        line += again([2, 1, 1, 2, 1, 1]) + response([4, 1, 4, 2, 2, 1]) + ranked([4, 1, 4, 0, 6, 3, 6, 0], 12) + once([])
        self.assertEqual(answers(line), [
            4, 0, 1, 2, 4, 4, 1, 0, 1, 2, 1, 0, 1, 4, 2, 1, 2,
            4, 0, 2, 1, 2, 3, 1, 1, 0, 4, 3, 1, 2, 4, 2, 1, 0])

    def test_counts_of_totals_compare_and_bound(self):
        line = begin(0, 3) + job([2], deadline=5) + job([1]) + ticks(1) + TOTALS + compare(1) + bound(1) + begin(2)
        line += job([1]) + bound(0) + compare(1)
        self.assertEqual(answers(line)[10:], [
            7, 1, 2, 0, 0, 1, 0, 1,
            24, 0, 0, 0, 1, 0, 0, 0, 1, 0, 0, 0, 1, 0, 0, 0, 1, 1, 1, 0, 1, 0, 0, 0, 1,
            2, 1, 3, 1, 0, 1, 0, 1, 0,
            24] + [1, 1, 0, 0] * 6)

    def test_what_stands_ahead_of_a_row(self):
        # t and n stand ahead of the row and of how many numbers it has.
        self.assertEqual(answers([15, 7, 3, 4, 2, 3]), [1, 4])
        self.assertEqual(answers([18, 12, 4, 3, 1, 3, 0]), [2, 4, 1])

    def test_refusal_is_its_number_alone(self):
        self.assertEqual(answers(ORDER), [1, -1])
        self.assertEqual(answers(begin(0) + ticks(0) + begin(0)), [1, 0, 1, -2, 1, 0])

    def test_empty_and_long_rows(self):
        line = begin(0) + [1, 0, 0, 1, 0, 1, 0] + [1, 0, 0, 1, 0, 1, 40] + [7] * 40 + ORDER
        self.assertEqual(answers(line), [1, 0, 1, -2, 1, -2, 1, 0])

    def test_gives_back_a_list_of_whole_numbers(self):
        given = answers(LINE)
        self.assertIs(type(given), list)
        self.assertEqual({type(number) for number in given}, {int})

    def test_three_hundred_calls(self):
        line = begin(1, age=3) + job([50] * 12, rounds=10) * 16 + ticks(10) * 283
        self.assertEqual(len(line), 5 + 16 * 19 + 283 * 2)
        self.assertEqual(sum(apart(answers(line))[-1][2::2]), 10)
        self.assertEqual(answers(begin(0) + ORDER * 299), [1, 0] + [1, 0] * 299)

    def test_greatest_work_in_a_line(self):
        busy = begin(2) + job([50, -1] * 5 + [50], shares=7, rounds=10) * 16 + ticks(200) * 15
        self.assertEqual(answers(busy * 9)[-1], answers(busy)[-1])

    def test_greatest_work_in_calls_that_run_long(self):
        busy = begin(2, 3, 2, 10) + job([50] * 12, shares=7, deadline=9, rounds=10) * 16
        told = answers(busy + compare(400) * 20)
        self.assertEqual(told[-25:], answers(busy + compare(400))[-25:])
        row = [12, 1, 12, 11, 1, 11, 10, 1, 10, 9, 1, 9, 8, 1, 8, 7, 1, 7]
        self.assertEqual(answers(again(row) * 20), [2, 1, 27720] * 20)
        self.assertEqual(len(answers(ranked([12, 12, 12, 30] * 6, 300) * 20)), 13 * 20)
        self.assertEqual(len(answers(once([60, 20, 200] * 12) * 300)), 15 * 300)


class LeftAlone(unittest.TestCase):
    def test_the_list_is_as_it_was(self):
        line = list(LINE)
        answers(line)
        self.assertEqual(line, LINE)

    def test_twice_the_same(self):
        self.assertEqual(answers(LINE), answers(LINE))

    def test_nothing_is_kept_from_one_line_to_the_next(self):
        alone = answers(LINE)
        answers(begin(5) + job([9]) + ticks(5))
        self.assertEqual(answers(ORDER), [1, -1])
        self.assertEqual(answers(LINE), alone)

    def test_what_was_given_may_be_changed(self):
        first = answers(LINE)
        asked = list(first)
        first.clear()
        self.assertEqual(answers(LINE), asked)

    def test_nothing_is_printed(self):
        out, wrong = io.StringIO(), io.StringIO()
        with contextlib.redirect_stdout(out), contextlib.redirect_stderr(wrong):
            answers(LINE)
        self.assertEqual((out.getvalue(), wrong.getvalue()), ("", ""))

    def test_nothing_but_the_package_is_imported(self):
        code = ("import sys; before = set(sys.modules); from jobsched.scheduler import answers; "
                "answers([0, 0, 1, 0, 0]); print(*sorted(set(sys.modules) - before))")
        top = pathlib.Path(__file__).resolve().parent.parent
        told = subprocess.run([sys.executable, "-S", "-B", "-c", code], cwd=top, capture_output=True, text=True,
                              check=True)
        names = told.stdout.split()
        self.assertIn("jobsched.scheduler", names)
        self.assertEqual([name for name in names if name.split(".")[0] != "jobsched"], [])


if __name__ == "__main__":
    unittest.main()
