"""Many lines, made from written seeds, held against the second telling of the document."""

import random
import unittest

from tests import helper
from tests.reference import reference_answers


def made_parts(source):
    parts = [source.randint(1, 6)]
    while source.random() < 0.5 and len(parts) < 11:
        if source.random() < 0.6:
            parts.append(-source.randint(1, 9))
        parts.append(source.randint(1, 6))
    return parts


def made_job(source):
    return helper.job(
        made_parts(source), comes=source.choice([0, 0, 1, 5, 20, source.randint(0, 60)]),
        urgency=source.randint(0, 9), shares=source.choice([1, 2, 3, 7, 100, source.randint(1, 100)]),
        deadline=source.choice([0, 0, 10, source.randint(1, 60)]), rounds=source.choice([1, 1, 2, 3]))


def made_once_row(source, most=12):
    """Threes, close enough together that some are late and some are not."""
    row = []
    for _ in range(source.randint(0, most)):
        start = source.randint(0, 20)
        row += [start, source.randint(1, 4), start + source.randint(-2, 25) if start > 1 else source.randint(0, 30)]
    return row


def made_kinds(source, size, most=6, longest=12):
    row = []
    for _ in range(source.randint(1, most)):
        period = source.randint(1, longest)
        need = source.choice([1, 1, 1, 2, source.randint(1, 12)])
        row += [period, need, source.choice([period, source.randint(1, period)])] + [source.randint(0, 30)] * (size == 4)
    return row


def spoiled(source, row):
    """A row that is, now and then, not as told."""
    if row and source.random() < 0.15:
        row = list(row)
        row[source.randrange(len(row))] = source.choice([-1, 0, 13, 31, 61, 201])
    if source.random() < 0.05:
        row = row[:-1]
    return row


def made_row_call(source):
    kinds = [
        lambda: helper.once(spoiled(source, made_once_row(source))),
        lambda: helper.tight(spoiled(source, made_once_row(source))),
        lambda: helper.demand(spoiled(source, made_kinds(source, 3)), source.choice([0, 10000, source.randint(-1, 99)])),
        lambda: helper.again(spoiled(source, made_kinds(source, 3))),
        lambda: helper.response(spoiled(source, made_kinds(source, 3))),
        lambda: helper.ranked(spoiled(source, made_kinds(source, 4)), source.choice([0, 300, source.randint(-1, 99)])),
    ]
    return source.choice(kinds)()


def made_call(source, jobs):
    chosen = source.randint(-1, jobs)
    kinds = [
        lambda: made_job(source),
        lambda: helper.ticks(source.choice([1, 1, 2, 3, 5, 0, source.randint(1, 30)])),
        lambda: helper.kill(chosen),
        lambda: helper.change(chosen, source.randint(0, 10), source.randint(0, 100)),
        lambda: helper.state(chosen),
        lambda: helper.ORDER,
        lambda: helper.SLEEPERS,
        lambda: helper.trace(source.randint(-1, 80), source.randint(0, 60)),
        lambda: helper.until_over(source.choice([1, 7, 40])),
        lambda: helper.TOTALS,
        lambda: helper.compare(source.choice([0, 1, 10, 60])),
        lambda: helper.bound(chosen),
        lambda: made_row_call(source),
    ]
    return source.choices(kinds, weights=[6, 10, 1, 3, 2, 4, 3, 2, 1, 2, 1, 2, 1])[0]()


def made_line(source, policy, count=90):
    line = [helper.begin(policy, source.randint(1, 4), source.choice([0, 1, 2, 5]), source.choice([0, 3, 7, 20]))]
    line += [made_job(source) for _ in range(source.randint(1, 6))]
    while len(line) < count:
        jobs = sum(call[0] == 1 for call in line)
        line.append(made_call(source, jobs))
    return line + [helper.state(j) for j in range(16)] + [helper.trace(0, 200), helper.TOTALS, helper.compare(400)]


class AgainstReference(unittest.TestCase):
    def hold_line(self, line):
        for call, given, asked in zip(line, helper.run(*line), reference_answers(line), strict=True):
            self.assertEqual(given, asked, (call, line))

    def hold(self, policy):
        source = random.Random(f"jobsched {policy}")
        for _ in range(60):
            self.hold_line(made_line(source, policy))

    def test_rows_on_a_machine_not_begun(self):
        source = random.Random("rows")
        for _ in range(150):
            self.hold_line([made_row_call(source) for _ in range(20)])

    def test_in_turn(self):
        self.hold(0)

    def test_by_urgency(self):
        self.hold(1)

    def test_by_shares(self):
        self.hold(2)

    def test_by_deadlines(self):
        self.hold(3)

    def test_least_left(self):
        self.hold(4)

    def test_by_levels(self):
        self.hold(5)


if __name__ == "__main__":
    unittest.main()
