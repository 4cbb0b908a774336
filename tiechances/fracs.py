"""Fractions: tuples (top, bottom), bottom above 0, told in lowest terms."""


def common_divisor(one, other):
    """The greatest number that divides both; other is above 0."""
    while other > 0:
        one, other = other, one % other
    return one


def lowest(top, bottom):
    """The fraction in lowest terms."""
    divisor = common_divisor(top, bottom)
    return (top // divisor, bottom // divisor)


def plus(one, other):
    """The sum of two fractions."""
    return lowest(one[0] * other[1] + other[0] * one[1], one[1] * other[1])


def times(one, other):
    """The product of two fractions."""
    return lowest(one[0] * other[0], one[1] * other[1])


def lack(one):
    """What the fraction lacks to 1."""
    return (one[1] - one[0], one[1])
