"""The divisors of a number, the sums of unlike ones, and the ways of a fraction that they give."""

from unitshares.fractions import check_has_ways, lowest


def divisors(number):
    """All divisors of the number, rising."""
    return [tried for tried in range(1, number + 1) if number % tried == 0]


def parts(number, wanted):
    """The unlike divisors of the number that come to what is wanted, from the greatest on, or None."""
    found = divisors(number)
    counts = least_counts(found, wanted)
    if wanted not in counts:
        return None
    told = []
    left = wanted
    for place in range(len(found) - 1, -1, -1):
        # The greater divisor goes first wherever the lesser ones can come to the
        # rest; one that merely fits may leave a rest that they don't come to.
        rest = left - found[place]
        if rest in counts and counts[rest] <= place:
            told.append(found[place])
            left = rest
    return told


def least_lack(number):
    """The least number from one on that is no sum of unlike divisors of the number."""
    # While all numbers up to some reach are sums, a further divisor that is at
    # most one above the reach widens it by itself; a greater one leaves a gap.
    reach = 0
    for divisor in divisors(number):
        if divisor > reach + 1:
            return reach + 1
        reach = reach + divisor
    return reach + 1


def handy(number):
    """Whether each number from one to the number is a sum of unlike divisors of it."""
    return least_lack(number) > number


def goes_by(fraction, most):
    """The least number up to `most` by which the fraction goes, and the way, or None."""
    check_has_ways(fraction)
    low = lowest(fraction)
    for times in range(1, min(most, 1000 // low[1]) + 1):
        number = times * low[1]
        told = parts(number, times * low[0])
        if told is not None:
            return (times, [number // part for part in told])
    return None


def least_counts(found, most):
    """For each sum up to `most` of unlike ones of those found, the least count from the first on that has it."""
    counts = {0: 0}
    for place, divisor in enumerate(found):
        for total in list(counts):
            grown = total + divisor
            if grown <= most and grown not in counts:
                counts[grown] = place + 1
    return counts
