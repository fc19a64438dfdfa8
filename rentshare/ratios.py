"""Fractions of whole numbers, exactly."""


def common_divisor(one, other):
    while other != 0:
        rest = one % other
        one = other
        other = rest
    return one


def lowest(parts, rows):
    # The walk begins with the parts, so the divisor is above nought even where all rows are nought or there are none.
    divisor = parts
    for row in rows:
        divisor = common_divisor(divisor, abs(row))
    return (parts // divisor, [row // divisor for row in rows])


def less(one, other):
    # Both parts are above nought, so multiplying by them doesn't turn the order round.
    return one[0] * other[1] < other[0] * one[1]
