"""Fractions: tuples (top, bottom), bottom above 0, told in lowest terms."""


def common_divisor(one, other):
    """The greatest number that divides both; other is above 0."""
    while other > 0:
        one, other = other, one % other
    return one


def lowest(top, bottom):
    """The fraction in lowest terms."""
    divisor = common_divisor(top, bottom)
    return (top // divisor, bottom // divisor)


def plus(one, other):
    """The sum of two fractions."""
    return lowest(one[0] * other[1] + other[0] * one[1], one[1] * other[1])


def times(one, other):
    """The product of two fractions."""
    return lowest(one[0] * other[0], one[1] * other[1])


def product(fractions):
    """The product of all the fractions, 1 where there are none."""
    found = (1, 1)
    for one in fractions:
        found = times(found, one)
    return found


def minus(one, other):
    """What is left of the one, below 0 too, where the other is taken from it."""
    return plus(one, (-other[0], other[1]))


def lack(one):
    """What the fraction lacks to 1."""
    return (one[1] - one[0], one[1])


def is_less(one, other):
    """Whether the one fraction is less than the other."""
    return one[0] * other[1] < other[0] * one[1]


def first_greatest(fractions):
    """Where the first of the greatest fractions stands, None where there are none."""
    best = None
    for at, one in enumerate(fractions):
        if best is None or is_less(fractions[best], one):
            best = at
    return best
