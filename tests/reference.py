"""A second, slower telling of the document, to hold the program against.

It is written apart from the program: fractions instead of whole parts, pairs
compared one with another instead of ranks, the sleepers in a list of their own,
every coming of a kind by itself.
"""

import itertools
from fractions import Fraction


class Refused(Exception):
    pass


def refuse(number, if_so):
    if if_so:
        raise Refused(number)


class Reference:
    def __init__(self):
        self.policy = None

    # -- section 1

    def ready(self, j):
        j["stands"] = 1
        j["left"] = j["parts"][j["part"]]
        j["waited"] = j["used"] = 0
        self.new_turn(j)
        if j["pass"] < self.floor:
            j["pass"] = self.floor

    def new_turn(self, j):
        j["turn"] = self.turns
        self.turns = self.turns + 1

    def tick(self):
        # 1
        waking = [k for k in self.asleep if self.jobs[k]["wakes"] <= self.now]
        waking.sort(key=lambda k: self.jobs[k]["wakes"])
        for k in waking:
            self.asleep.remove(k)
            self.jobs[k]["part"] += 1
            self.ready(self.jobs[k])
        for j in self.jobs:
            if j["stands"] == 0 and j["comes"] <= self.now:
                self.ready(j)
        # 2
        if self.policy == 5 and self.boost > 0 and self.now > 0 and self.now % self.boost == 0:
            for j in self.jobs:
                j["level"] = j["used"] = 0
        # 3
        line = self.in_order()
        if not line:
            self.current = None
            self.went.append(-1)
        else:
            self.goes(line[0], line[1:])
            self.went.append(line[0])
        # 6
        self.now += 1

    def goes(self, k, others):
        # 4
        j = self.jobs[k]
        if self.floor < j["pass"]:
            self.floor = j["pass"]
        for o in others:
            other = self.jobs[o]
            other["waited"] += 1
            if other["waited"] > other["longest"]:
                other["longest"] = other["waited"]
        j["left"] -= 1
        j["ran"] += 1
        j["waited"] = 0
        j["used"] += 1
        j["pass"] += Fraction(1, j["shares"])
        if j["left"] == 0:
            self.next_part(k, j)
        # 5
        if j["stands"] != 1:
            self.current = None
        elif self.policy == 0:
            self.current = k
            if j["used"] >= self.slice:
                j["used"] = 0
                self.new_turn(j)
                self.current = None
        elif self.policy in (1, 2):
            self.new_turn(j)
            self.current = None
        elif self.policy == 5 and j["used"] >= 2 ** j["level"]:
            j["used"] = 0
            j["level"] = 3 if j["level"] == 3 else j["level"] + 1
            self.new_turn(j)
            self.current = None

    def next_part(self, k, j):
        if j["part"] == len(j["parts"]) - 1:
            if j["behind"] == j["rounds"] - 1:
                j["stands"] = 3
                j["ended"] = self.now + 1
                return
            j["behind"] += 1
            j["part"] = 0
        else:
            j["part"] += 1
        n = j["parts"][j["part"]]
        if n > 0:
            j["left"] = n
        else:
            j["stands"] = 2
            j["wakes"] = self.now + 1 - n
            self.new_turn(j)
            self.asleep.append(k)

    # -- section 2

    def before(self, a, b):
        one, other = self.jobs[a], self.jobs[b]
        if self.policy == 0:
            if self.current in (a, b):
                return self.current == a
            return one["turn"] < other["turn"]
        if self.policy == 1:
            x, y = self.urgent(one), self.urgent(other)
            return x > y or (x == y and one["turn"] < other["turn"])
        if self.policy == 2:
            x, y = one["pass"], other["pass"]
            return x < y or (x == y and one["turn"] < other["turn"])
        if self.policy == 3:
            if one["deadline"] == 0 or other["deadline"] == 0:
                if one["deadline"] == other["deadline"]:
                    return a < b
                return other["deadline"] == 0
            x, y = one["comes"] + one["deadline"], other["comes"] + other["deadline"]
            return x < y or (x == y and a < b)
        if self.policy == 4:
            x, y = one["left"], other["left"]
            return x < y or (x == y and a < b)
        x, y = one["level"], other["level"]
        return x < y or (x == y and one["turn"] < other["turn"])

    def urgent(self, j):
        return j["urgency"] + (j["waited"] // self.age if self.age else 0)

    def in_order(self):
        line = []
        for k, j in enumerate(self.jobs):
            if j["stands"] == 1:
                at = 0
                while at < len(line) and self.before(line[at], k):
                    at += 1
                line.insert(at, k)
        return line

    # -- the calls

    def begin(self, policy, slice_ticks, age, boost):
        refuse(-2, not (0 <= policy <= 5 and 1 <= slice_ticks <= 20 and 0 <= age <= 20 and 0 <= boost <= 100))
        self.policy, self.slice, self.age, self.boost = policy, slice_ticks, age, boost
        self.now = self.turns = 0
        self.floor = Fraction(0)
        self.current = None
        self.jobs, self.asleep, self.went = [], [], []
        return [0]

    def job(self, comes, urgency, shares, deadline, rounds, parts):
        refuse(-2, not (0 <= comes <= 500 and 0 <= urgency <= 9 and 1 <= shares <= 100))
        refuse(-2, not (0 <= deadline <= 1000 and 1 <= rounds <= 10 and 1 <= len(parts) <= 12))
        refuse(-2, any(n == 0 or n < -100 or n > 50 for n in parts))
        refuse(-2, parts[0] < 0 or parts[-1] < 0 or any(m < 0 > n for m, n in zip(parts, parts[1:])))
        refuse(-3, len(self.jobs) == 16)
        refuse(-4, comes < self.now)
        self.jobs.append({
            "comes": comes, "urgency": urgency, "shares": shares, "deadline": deadline, "rounds": rounds,
            "parts": tuple(parts), "stands": 0, "part": 0, "left": 0, "behind": 0, "wakes": 0, "turn": 0,
            "waited": 0, "used": 0, "level": 0, "pass": Fraction(0), "ran": 0, "ended": 0, "longest": 0})
        return [len(self.jobs) - 1]

    def stretched(self, went):
        found = []
        for k in went:
            if found and found[-1][0] == k:
                found[-1][1] += 1
            else:
                found.append([k, 1])
        return [len(found)] + [number for pair in found for number in pair]

    def ticks(self, n):
        refuse(-2, not 1 <= n <= 200)
        refuse(-5, self.now + n > 3000)
        for _ in range(n):
            self.tick()
        return self.stretched(self.went[-n:])

    def over(self):
        return all(j["stands"] > 2 for j in self.jobs)

    def until_over(self, n):
        refuse(-2, not 1 <= n <= 1000)
        refuse(-5, self.now + n > 3000)
        start = self.now
        while self.now < start + n and not self.over():
            self.tick()
        return [int(self.over()), self.now - start]

    def known(self, k):
        refuse(-2, not 0 <= k < len(self.jobs))
        return self.jobs[k]

    def kill(self, k):
        j = self.known(k)
        refuse(-6, j["stands"] > 2)
        if j["stands"] == 2:
            self.asleep.remove(k)
        j["stands"] = 4
        j["ended"] = self.now
        if self.current == k:
            self.current = None
        return [0]

    def change(self, k, urgency, shares):
        j = self.known(k)
        refuse(-2, not (0 <= urgency <= 9 and 1 <= shares <= 100))
        refuse(-6, j["stands"] > 2)
        j["urgency"], j["shares"], j["waited"] = urgency, shares, 0
        return [0]

    def state(self, k):
        j = self.known(k)
        return [j["stands"], j["part"], j["left"], j["behind"], j["wakes"], j["waited"], j["used"], j["level"],
                j["pass"].numerator, j["pass"].denominator, j["ran"], j["ended"], j["longest"]]

    def order(self):
        line = self.in_order()
        return [len(line)] + line

    def sleepers(self):
        line = sorted(self.asleep, key=lambda k: self.jobs[k]["wakes"])
        return [len(line)] + [number for k in line for number in (k, self.jobs[k]["wakes"])]

    def trace(self, a, n):
        refuse(-2, not (0 <= a <= self.now and 0 <= n <= 200))
        return self.stretched(self.went[a:][:n])


    def totals(self):
        return [self.now, len(self.jobs), sum(j["stands"] > 2 for j in self.jobs), self.went.count(-1),
                len(list(itertools.groupby(self.went))), self.floor.numerator, self.floor.denominator]

    def compare(self, n):
        refuse(-2, not 1 <= n <= 400)
        told = []
        for policy in range(6):
            other = Reference()
            other.begin(policy, self.slice, self.age, self.boost)
            for j in self.jobs:
                other.job(j["comes"], j["urgency"], j["shares"], j["deadline"], j["rounds"], list(j["parts"]))
            other.until_over(n)
            told += other.ended_well()
        return told

    def ended_well(self):
        count = total = longest = 0
        latest = None
        for j in self.jobs:
            longest = max(longest, j["longest"])
            if j["stands"] == 3:
                count += 1
                total += j["ended"]
                late = j["ended"] - j["comes"] - j["deadline"]
                if j["deadline"] and (latest is None or late > latest):
                    latest = late
        return [count, total] + ([0] if latest is None else [1, latest]) + [longest]

    def bound(self, k):
        j = self.known(k)
        if self.policy == 0:
            return [1, self.slice * (len(self.jobs) - 1)]
        if self.policy == 1 and self.age:
            return [1, self.age * (11 - j["urgency"]) + len(self.jobs)]
        return [0]

    # -- section 3

    def once_jobs(self, row):
        refuse(-2, len(row) % 3 or len(row) > 36)
        found = list(zip(row[0::3], row[1::3], row[2::3]))
        refuse(-2, any(not (0 <= start <= 60 and 1 <= need <= 20 and 0 <= due <= 200) for start, need, due in found))
        return found

    def once(self, row):
        jobs = self.once_jobs(row)
        # One entry for each tick that is needed yet: the due time, the place in the row, from when.
        needed = sorted((due, k, start) for k, (start, need, due) in enumerate(jobs) for _ in range(need))
        done = {}
        for now in itertools.count():
            if not needed:
                break
            may = [entry for entry in needed if entry[2] <= now]
            if may:
                needed.remove(may[0])
                done[may[0][1]] = now + 1
        times = [done[k] for k in range(len(jobs))]
        late = [time - due for time, (_, _, due) in zip(times, jobs)]
        return [int(not any(by > 0 for by in late)), max(late or [0])] + times

    def tight(self, row):
        jobs = self.once_jobs(row)
        found = []
        for a, b in itertools.product({job[0] for job in jobs}, {job[2] for job in jobs}):
            must = sum(need for start, need, due in jobs if a <= start and due <= b)
            if must > (0 if b < a else b - a):
                found.append((b, a, must))
        if not found:
            return [0]
        b, a, must = min(found)
        return [1, a, b, must]

    # -- section 4

    def kinds(self, row, size):
        refuse(-2, len(row) % size or not 1 <= len(row) // size <= 6)
        found = [row[at:at + size] for at in range(0, len(row), size)]
        for kind in found:
            refuse(-2, not (1 <= kind[0] <= 12 and 1 <= kind[1] <= 12 and 1 <= kind[2] <= kind[0]))
            refuse(-2, size == 4 and not 0 <= kind[3] <= 30)
        return found

    def demand(self, t, row):
        kinds = self.kinds(row, 3)
        refuse(-2, not 0 <= t <= 10000)
        return [sum(need for period, need, due in kinds for comes in range(0, t + 1, period) if comes + due <= t)]

    def again(self, row):
        kinds = self.kinds(row, 3)
        whole = 1
        while any(whole % period for period, _, _ in kinds):
            whole += 1
        comings = sorted((comes + due, need) for period, need, due in kinds for comes in range(0, whole, period))
        asked = 0
        for t in range(whole + 1):
            while comings and comings[0][0] <= t:
                asked += comings.pop(0)[1]
            if asked > t:
                return [0, whole, t, asked]
        return [1, whole]

    def response(self, row):
        kinds = self.kinds(row, 3)
        told = []
        for i, (_, need, due) in enumerate(kinds):
            r, s = None, need
            while s != r and (r is None or s <= due):
                r = s
                s = need + sum(n * (r // p + (r % p > 0)) for p, n, _ in kinds[:i])
            told += [0] if s > due else [1, s]
        return told

    def ranked(self, n, row):
        kinds = self.kinds(row, 4)
        refuse(-2, not 0 <= n <= 300)
        waiting = [[] for _ in kinds]
        took = [[] for _ in kinds]
        for now in range(n):
            for (period, need, _, beginning), line in zip(kinds, waiting):
                if now >= beginning and (now - beginning) % period == 0:
                    line.append([now, need])
            busy = [k for k, line in enumerate(waiting) if line]
            if busy:
                coming = waiting[busy[0]][0]
                coming[1] -= 1
                if coming[1] == 0:
                    waiting[busy[0]].pop(0)
                    took[busy[0]].append(now + 1 - coming[0])
        return [number for found in took for number in (len(found), max(found, default=0))]


NAMES = ("begin", "job", "ticks", "until_over", "kill", "change", "state", "order", "sleepers", "trace", "totals",
         "compare", "bound", "once", "tight", "demand", "again", "response", "ranked")
WITHOUT_MACHINE = (0, 13, 14, 15, 16, 17, 18)
# How many numbers stand between the place and the row's count, where there is a row.
AHEAD_OF_ROW = {1: 5, 13: 0, 14: 0, 15: 1, 16: 0, 17: 0, 18: 1}


def reference_answers(calls):
    """calls: a list of lists, as the helper makes them, one a call."""
    machine = Reference()
    given = []
    for call in calls:
        arguments = list(call[1:])
        if call[0] in AHEAD_OF_ROW:
            ahead = AHEAD_OF_ROW[call[0]]
            arguments = arguments[:ahead] + [arguments[ahead + 1:]]
        try:
            refuse(-1, machine.policy is None and call[0] not in WITHOUT_MACHINE)
            given.append(getattr(machine, NAMES[call[0]])(*arguments))
        except Refused as refused:
            given.append([refused.args[0]])
    return given
