"""Lines of calls, told as one list of whole numbers and answered as one."""

from jobsched.calls import Line, answer

# How many whole numbers stand behind each call's place, its row left out.
NUMBERS_BEHIND = (4, 5, 1, 1, 1, 3, 1, 0, 0, 2, 0, 1, 1, 0, 0, 1, 0, 0, 1)
PLACES_WITH_ROW = (1, 13, 14, 15, 16, 17, 18)


# Goes through the list once by its place there, so the list stays as it is.
class Reader:
    def __init__(self, told):
        self.told = told
        self.at = 0

    def has_more(self):
        return self.at < len(self.told)

    def take_one(self):
        self.at += 1
        return self.told[self.at - 1]

    def take_many(self, many):
        self.at += many
        return self.told[self.at - many:self.at]


def answers(calls):
    reader = Reader(calls)
    line = Line()
    given = []
    while reader.has_more():
        place = reader.take_one()
        numbers = reader.take_many(NUMBERS_BEHIND[place])
        row = []
        if place in PLACES_WITH_ROW:
            row = reader.take_many(reader.take_one())
        told = answer(line, place, numbers, row)
        given.append(len(told))
        given.extend(told)
    return given
