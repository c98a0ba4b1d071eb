"""A second, slower telling of the document, to hold the program against.

It is written apart from the program: fractions instead of whole parts, pairs
compared one with another instead of ranks, the sleepers in a list of their own.
"""

from fractions import Fraction


class Refused(Exception):
    pass


def refuse(number, if_so):
    if if_so:
        raise Refused(number)


class Reference:
    def __init__(self):
        self.policy = None

    # -- section 1

    def ready(self, j):
        j["stands"] = 1
        j["left"] = j["parts"][j["part"]]
        j["waited"] = j["used"] = 0
        self.new_turn(j)
        if j["pass"] < self.floor:
            j["pass"] = self.floor

    def new_turn(self, j):
        j["turn"] = self.turns
        self.turns = self.turns + 1

    def tick(self):
        # 1
        waking = [k for k in self.asleep if self.jobs[k]["wakes"] <= self.now]
        waking.sort(key=lambda k: self.jobs[k]["wakes"])
        for k in waking:
            self.asleep.remove(k)
            self.jobs[k]["part"] += 1
            self.ready(self.jobs[k])
        for j in self.jobs:
            if j["stands"] == 0 and j["comes"] <= self.now:
                self.ready(j)
        # 2
        if self.policy == 5 and self.boost > 0 and self.now > 0 and self.now % self.boost == 0:
            for j in self.jobs:
                j["level"] = j["used"] = 0
        # 3
        line = self.in_order()
        if not line:
            self.current = None
            self.went.append(-1)
        else:
            self.goes(line[0], line[1:])
            self.went.append(line[0])
        # 6
        self.now += 1

    def goes(self, k, others):
        # 4
        j = self.jobs[k]
        if self.floor < j["pass"]:
            self.floor = j["pass"]
        for o in others:
            other = self.jobs[o]
            other["waited"] += 1
            if other["waited"] > other["longest"]:
                other["longest"] = other["waited"]
        j["left"] -= 1
        j["ran"] += 1
        j["waited"] = 0
        j["used"] += 1
        j["pass"] += Fraction(1, j["shares"])
        if j["left"] == 0:
            self.next_part(k, j)
        # 5
        if j["stands"] != 1:
            self.current = None
        elif self.policy == 0:
            self.current = k
            if j["used"] >= self.slice:
                j["used"] = 0
                self.new_turn(j)
                self.current = None
        elif self.policy in (1, 2):
            self.new_turn(j)
            self.current = None
        elif self.policy == 5 and j["used"] >= 2 ** j["level"]:
            j["used"] = 0
            j["level"] = 3 if j["level"] == 3 else j["level"] + 1
            self.new_turn(j)
            self.current = None

    def next_part(self, k, j):
        if j["part"] == len(j["parts"]) - 1:
            if j["behind"] == j["rounds"] - 1:
                j["stands"] = 3
                j["ended"] = self.now + 1
                return
            j["behind"] += 1
            j["part"] = 0
        else:
            j["part"] += 1
        n = j["parts"][j["part"]]
        if n > 0:
            j["left"] = n
        else:
            j["stands"] = 2
            j["wakes"] = self.now + 1 - n
            self.new_turn(j)
            self.asleep.append(k)

    # -- section 2

    def before(self, a, b):
        one, other = self.jobs[a], self.jobs[b]
        if self.policy == 0:
            if self.current in (a, b):
                return self.current == a
            return one["turn"] < other["turn"]
        if self.policy == 1:
            x, y = self.urgent(one), self.urgent(other)
            return x > y or (x == y and one["turn"] < other["turn"])
        if self.policy == 2:
            x, y = one["pass"], other["pass"]
            return x < y or (x == y and one["turn"] < other["turn"])
        if self.policy == 3:
            if one["deadline"] == 0 or other["deadline"] == 0:
                if one["deadline"] == other["deadline"]:
                    return a < b
                return other["deadline"] == 0
            x, y = one["comes"] + one["deadline"], other["comes"] + other["deadline"]
            return x < y or (x == y and a < b)
        if self.policy == 4:
            x, y = one["left"], other["left"]
            return x < y or (x == y and a < b)
        x, y = one["level"], other["level"]
        return x < y or (x == y and one["turn"] < other["turn"])

    def urgent(self, j):
        return j["urgency"] + (j["waited"] // self.age if self.age else 0)

    def in_order(self):
        line = []
        for k, j in enumerate(self.jobs):
            if j["stands"] == 1:
                at = 0
                while at < len(line) and self.before(line[at], k):
                    at += 1
                line.insert(at, k)
        return line

    # -- the calls

    def begin(self, policy, slice_ticks, age, boost):
        refuse(-2, not (0 <= policy <= 5 and 1 <= slice_ticks <= 20 and 0 <= age <= 20 and 0 <= boost <= 100))
        self.policy, self.slice, self.age, self.boost = policy, slice_ticks, age, boost
        self.now = self.turns = 0
        self.floor = Fraction(0)
        self.current = None
        self.jobs, self.asleep, self.went = [], [], []
        return [0]

    def job(self, comes, urgency, shares, deadline, rounds, parts):
        refuse(-2, not (0 <= comes <= 500 and 0 <= urgency <= 9 and 1 <= shares <= 100))
        refuse(-2, not (0 <= deadline <= 1000 and 1 <= rounds <= 10 and 1 <= len(parts) <= 12))
        refuse(-2, any(n == 0 or n < -100 or n > 50 for n in parts))
        refuse(-2, parts[0] < 0 or parts[-1] < 0 or any(m < 0 > n for m, n in zip(parts, parts[1:])))
        refuse(-3, len(self.jobs) == 16)
        refuse(-4, comes < self.now)
        self.jobs.append({
            "comes": comes, "urgency": urgency, "shares": shares, "deadline": deadline, "rounds": rounds,
            "parts": tuple(parts), "stands": 0, "part": 0, "left": 0, "behind": 0, "wakes": 0, "turn": 0,
            "waited": 0, "used": 0, "level": 0, "pass": Fraction(0), "ran": 0, "ended": 0, "longest": 0})
        return [len(self.jobs) - 1]

    def stretched(self, went):
        found = []
        for k in went:
            if found and found[-1][0] == k:
                found[-1][1] += 1
            else:
                found.append([k, 1])
        return [len(found)] + [number for pair in found for number in pair]

    def ticks(self, n):
        refuse(-2, not 1 <= n <= 200)
        refuse(-5, self.now + n > 3000)
        for _ in range(n):
            self.tick()
        return self.stretched(self.went[-n:])

    def over(self):
        return all(j["stands"] > 2 for j in self.jobs)

    def until_over(self, n):
        refuse(-2, not 1 <= n <= 1000)
        refuse(-5, self.now + n > 3000)
        start = self.now
        while self.now < start + n and not self.over():
            self.tick()
        return [int(self.over()), self.now - start]

    def known(self, k):
        refuse(-2, not 0 <= k < len(self.jobs))
        return self.jobs[k]

    def kill(self, k):
        j = self.known(k)
        refuse(-6, j["stands"] > 2)
        if j["stands"] == 2:
            self.asleep.remove(k)
        j["stands"] = 4
        j["ended"] = self.now
        if self.current == k:
            self.current = None
        return [0]

    def change(self, k, urgency, shares):
        j = self.known(k)
        refuse(-2, not (0 <= urgency <= 9 and 1 <= shares <= 100))
        refuse(-6, j["stands"] > 2)
        j["urgency"], j["shares"], j["waited"] = urgency, shares, 0
        return [0]

    def state(self, k):
        j = self.known(k)
        return [j["stands"], j["part"], j["left"], j["behind"], j["wakes"], j["waited"], j["used"], j["level"],
                j["pass"].numerator, j["pass"].denominator, j["ran"], j["ended"], j["longest"]]

    def order(self):
        line = self.in_order()
        return [len(line)] + line

    def sleepers(self):
        line = sorted(self.asleep, key=lambda k: self.jobs[k]["wakes"])
        return [len(line)] + [number for k in line for number in (k, self.jobs[k]["wakes"])]

    def trace(self, a, n):
        refuse(-2, not (0 <= a <= self.now and 0 <= n <= 200))
        return self.stretched(self.went[a:][:n])


NAMES = ("begin", "job", "ticks", "until_over", "kill", "change", "state", "order", "sleepers", "trace")


def reference_answers(calls):
    """calls: a list of lists, as the helper makes them, one a call."""
    machine = Reference()
    given = []
    for call in calls:
        arguments = list(call[1:])
        if call[0] == 1:
            arguments = call[1:6] + [call[7:]]
        try:
            refuse(-1, machine.policy is None and call[0] != 0)
            given.append(getattr(machine, NAMES[call[0]])(*arguments))
        except Refused as refused:
            given.append([refused.args[0]])
    return given
