"""Fractions as pairs of a top and a bottom, and what lists of shares come to."""

from unitshares.errors import NoFraction, NotBelow


def lowest(fraction):
    """The fraction in lowest terms."""
    check_fraction(fraction)
    common = common_divisor(fraction[0], fraction[1])
    return (fraction[0] // common, fraction[1] // common)


def added(one, other):
    """Both fractions together, in lowest terms."""
    return joined(lowest(one), lowest(other))


def less(one, other):
    """Whether the first fraction is less than the second."""
    check_fraction(one)
    check_fraction(other)
    return one[0] * other[1] < other[0] * one[1]


def taken(one, other):
    """The first fraction less the second, in lowest terms."""
    if less(one, other):
        raise NotBelow("the fraction taken away is the greater one")
    away = lowest(other)
    return joined(lowest(one), (-away[0], away[1]))


def sum_of(shares):
    """What the shares come to, in lowest terms."""
    total = (0, 1)
    for share in shares:
        total = joined(total, (1, share))
    return total


def is_way(fraction, shares):
    """Whether the shares rise and come to the fraction."""
    aim = lowest(fraction)
    return rises(shares) and sum_of(shares) == aim


def rises(shares):
    """Whether each share's number is above the one ahead of it."""
    for place in range(1, len(shares)):
        if shares[place] <= shares[place - 1]:
            return False
    return True


def check_fraction(fraction):
    """Refuse a pair that is no fraction."""
    if fraction[0] < 0 or fraction[1] < 1:
        raise NoFraction("a top is nought or more, a bottom one or more")


def check_has_ways(fraction):
    """Refuse a pair that is no fraction, then a fraction that is not between nought and one."""
    check_fraction(fraction)
    if fraction[0] == 0 or fraction[0] >= fraction[1]:
        raise NotBelow("only fractions between nought and one have ways")


def joined(one, other):
    """The sum in lowest terms of two pairs in lowest terms; a top below nought takes away."""
    # Only divisors of both bottoms can divide the sum's top and bottom. Looking
    # for no others keeps the numbers short when the bottoms of many shares pile up.
    shared = common_divisor(one[1], other[1])
    top = one[0] * (other[1] // shared) + other[0] * (one[1] // shared)
    common = common_divisor(top, shared)
    return (top // common, (one[1] // shared) * (other[1] // common))


def common_divisor(one, other):
    """The greatest number that divides both; neither is below nought, and not both are nought."""
    while other > 0:
        rest = one % other
        one = other
        other = rest
    return one
