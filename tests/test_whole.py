"""What holds over the whole program: ways are ways, whoever tells them."""

import unittest

from unitshares.all_ways import all_ways, fewest
from unitshares.errors import NoFraction, NotBelow, TooGreat
from unitshares.fractions import is_way
from unitshares.notes import read, shown
from unitshares.parting import goes_by
from unitshares.taking import greatest_first, rising, rising_factors, split

ASKING = [
    greatest_first, rising, rising_factors, lambda fraction: goes_by(fraction, 1000),
    lambda fraction: all_ways(fraction, 4, 60), lambda fraction: fewest(fraction, 60)]
FRACTIONS = [(top, bottom) for bottom in range(2, 26) for top in range(1, bottom)] + [
    (59, 60), (41, 42), (5000, 10000), (3000, 7000), (1, 1000), (7, 1000), (10, 10000), (9900, 10000), (9, 997)]


def told_ways(fraction):
    ways = [rising(fraction)] + all_ways(fraction, 4, 60)
    try:
        ways.append(greatest_first(fraction))
    except TooGreat:
        pass
    pair = goes_by(fraction, 1000)
    if pair is not None:
        ways.append(pair[1])
    first = fewest(fraction, 60)
    if first is not None:
        ways.append(first)
    return ways


class Ways(unittest.TestCase):
    def test_each_told_way_is_one(self):
        for fraction in FRACTIONS:
            for shares in told_ways(fraction):
                self.assertIs(is_way(fraction, shares), True, (fraction, shares))

    def test_each_is_one_again_with_its_last_share_parted(self):
        for fraction in FRACTIONS:
            for shares in told_ways(fraction):
                if shares[-1] < 10 ** 200:
                    longer = shares[:-1] + split(shares[-1])
                    self.assertIs(is_way(fraction, longer), True, (fraction, longer))

    def test_each_is_written_and_read_again(self):
        for fraction in FRACTIONS:
            for shares in told_ways(fraction):
                self.assertEqual(read(shown(shares)), shares)


class Refused(unittest.TestCase):
    def test_no_fraction_ahead_of_not_below(self):
        for wrong in [(-1, 2), (-1, 1), (1, 0), (0, 0), (0, -1), (1, -2), (-1, -2), (-3, 0), (7, -5)]:
            for ask in ASKING:
                with self.assertRaises(NoFraction):
                    ask(wrong)

    def test_not_below(self):
        for wrong in [(0, 1), (0, 9), (1, 1), (7, 7), (3, 2), (10000, 10000), (10000, 9999), (60, 1)]:
            for ask in ASKING:
                with self.assertRaises(NotBelow):
                    ask(wrong)


if __name__ == "__main__":
    unittest.main()
