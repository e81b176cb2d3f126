"""All ways of a fraction within bounds, in order."""

from unitshares.fractions import check_has_ways


def all_ways(fraction, most, greatest):
    """The ways with at most so many shares, none numbered above the greatest: fewer shares first, then rising."""
    check_has_ways(fraction)
    ways = []
    for count in range(1, most + 1):
        ways.extend(ways_above(fraction, count, 0, greatest))
    return ways


def fewest(fraction, greatest):
    """The first of the ways with 1 to 4 shares, or None."""
    ways = all_ways(fraction, 4, greatest)
    if len(ways) == 0:
        return None
    return ways[0]


def ways_above(fraction, count, ahead, greatest):
    """The ways with just so many shares whose numbers are above the one ahead and at most the greatest."""
    top = fraction[0]
    bottom = fraction[1]
    if count == 1:
        return only_share(top, bottom, ahead, greatest)
    ways = []
    # The first share must leave something for the others, and as it is the
    # greatest of them, the fraction can't be more than so many times it.
    least = max(ahead, bottom // top) + 1
    last = min(greatest, count * bottom // top)
    for share in range(least, last + 1):
        left = (top * share - bottom, bottom * share)
        for rest in ways_above(left, count - 1, share, greatest):
            ways.append([share] + rest)
    return ways


def only_share(top, bottom, ahead, greatest):
    """The way of one share as the only one in a list, or an empty list where there is none."""
    share = bottom // top
    if share * top == bottom and ahead < share and share <= greatest:
        return [[share]]
    return []
