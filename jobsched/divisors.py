"""What whole numbers divide, and what divides them."""


def greatest_divisor(one, other):
    while other > 0:
        rest = one % other
        one = other
        other = rest
    return one


def least_multiple(one, other):
    return one * other // greatest_divisor(one, other)


def divided_up(number, divisor):
    return (number + divisor - 1) // divisor
