import unittest
from fractions import Fraction
from itertools import combinations
from math import lcm

from unitshares.all_ways import all_ways, fewest
from unitshares.errors import NoFraction, NotBelow
from unitshares.fractions import is_way

NO_FRACTIONS = [(-1, 2), (-1, 1), (1, 0), (0, 0), (0, -1), (1, -2), (-1, -2), (-3, 0), (5, -2), (-10 ** 999, 7)]
NOT_BELOW = [(0, 1), (0, 7), (1, 1), (9, 9), (3, 2), (10000, 9999), (2, 1), (10 ** 50, 1), (0, 5000)]
SMALL = [(top, bottom) for bottom in range(2, 19) for top in range(1, bottom)]


def all_lists(greatest):
    """All rising lists of 1 to 4 shares by what they come to, fewer shares first, then by number."""
    # Whole sums over one bottom, as many fractions would take long.
    bottom = lcm(*range(1, greatest + 1))
    found = {}
    for count in range(1, 5):
        for shares in combinations(range(1, greatest + 1), count):
            total = sum([bottom // share for share in shares])
            found.setdefault(total, []).append(list(shares))
    return bottom, found


def ways_among(lists, fraction, most):
    bottom, found = lists
    total = Fraction(*fraction) * bottom
    return [shares for shares in found.get(total, []) if len(shares) <= most]


class AllWays(unittest.TestCase):
    def tells(self, fraction, most, greatest, wanted):
        ways = all_ways(fraction, most, greatest)
        self.assertIs(type(ways), list)
        self.assertEqual(ways, wanted, (fraction, most, greatest))
        for shares in ways:
            self.assertIs(type(shares), list)
            self.assertEqual(shares, sorted(set(shares)))
            self.assertLessEqual(len(shares), most)
            self.assertLessEqual(shares[-1], greatest)
            self.assertEqual(sum([Fraction(1, share) for share in shares]), Fraction(*fraction))
            self.assertIs(is_way(fraction, shares), True)

    def test_one_share(self):
        self.tells((1, 2), 1, 60, [[2]])
        self.tells((1, 60), 1, 60, [[60]])
        self.tells((1, 60), 1, 59, [])
        self.tells((2, 3), 1, 60, [])

    def test_two_shares(self):
        self.tells((1, 2), 2, 60, [[2], [3, 6]])
        self.tells((1, 2), 2, 5, [[2]])
        self.tells((5, 6), 2, 3, [[2, 3]])
        self.tells((1, 6), 2, 60, [[6], [7, 42], [8, 24], [9, 18], [10, 15]])
        self.tells((1, 6), 2, 5, [])

    def test_three_and_four_shares(self):
        self.tells((1, 2), 3, 12, [[2], [3, 6], [4, 6, 12]])
        self.tells((5, 6), 3, 12, [[2, 3], [2, 4, 12]])
        self.tells((5, 6), 4, 12, [[2, 3], [2, 4, 12], [3, 4, 6, 12]])

    def test_no_way(self):
        self.tells((1, 2), 4, 1, [])
        self.tells((9999, 10000), 4, 60, [])
        self.tells((1, 9973), 4, 60, [])
        self.tells((1, 61), 4, 60, [])
        self.tells((4, 5), 2, 60, [])

    def test_the_greatest_number_itself_counts(self):
        self.tells((1, 2), 2, 6, [[2], [3, 6]])
        self.tells((5, 6), 3, 11, [[2, 3]])
        self.tells((4, 5), 3, 10, [[2, 5, 10]])
        self.tells((4, 5), 3, 9, [])

    def test_not_in_lowest_terms(self):
        self.tells((5000, 10000), 2, 60, [[2], [3, 6]])
        self.tells((10, 12), 4, 12, [[2, 3], [2, 4, 12], [3, 4, 6, 12]])
        self.assertEqual(all_ways((3000, 7000), 4, 60), all_ways((3, 7), 4, 60))

    def test_order(self):
        ways = all_ways((1, 2), 4, 60)
        self.assertEqual(ways, sorted(ways, key=lambda shares: (len(shares), shares)))
        self.assertGreater(len(ways), 20)
        self.assertEqual({len(shares) for shares in ways}, {1, 2, 3, 4})

    def test_against_all_rising_lists(self):
        for greatest in range(1, 17):
            lists = all_lists(greatest)
            for fraction in SMALL:
                for most in range(1, 5):
                    self.tells(fraction, most, greatest, ways_among(lists, fraction, most))

    def test_greatest_of_60_against_all_rising_lists(self):
        lists = all_lists(60)
        fractions = SMALL[::5] + [(1, 20), (1, 30), (7, 60), (59, 60), (41, 42), (3000, 7000), (5000, 10000),
                                  (9999, 10000), (1, 10000), (1, 59), (1, 60), (23, 24)]
        for fraction in fractions:
            for most in range(1, 5):
                self.tells(fraction, most, 60, ways_among(lists, fraction, most))


class Fewest(unittest.TestCase):
    def test_told_examples(self):
        self.assertEqual(fewest((1, 2), 60), [2])
        self.assertEqual(fewest((5, 6), 60), [2, 3])
        self.assertEqual(fewest((4, 5), 60), [2, 4, 20])
        self.assertEqual(fewest((4, 5), 10), [2, 5, 10])
        self.assertEqual(fewest((1, 6), 60), [6])
        self.assertEqual(fewest((10, 12), 60), [2, 3])

    def test_three_and_four_shares(self):
        self.assertEqual(fewest((23, 24), 60), [2, 3, 8])
        self.assertEqual(fewest((3, 7), 28), [4, 7, 28])
        self.assertEqual(fewest((59, 60), 60), [2, 3, 8, 40])
        self.assertEqual(fewest((59, 60), 39), [2, 3, 10, 20])

    def test_none(self):
        self.assertIsNone(fewest((1, 2), 1))
        self.assertIsNone(fewest((9999, 10000), 60))
        self.assertIsNone(fewest((1, 61), 60))
        self.assertIsNone(fewest((4, 5), 9))

    def test_none_where_it_takes_five_shares(self):
        for fraction, shares in [((8, 11), [2, 11, 12, 33, 44]), ((16, 17), [2, 3, 17, 34, 51])]:
            self.assertIs(is_way(fraction, shares), True)
            self.assertIsNone(fewest(fraction, 60))
            self.assertEqual(all_ways(fraction, 4, 60), [])

    def test_the_first_of_all_rising_lists(self):
        for greatest in list(range(1, 13)) + [20]:
            lists = all_lists(greatest)
            for fraction in SMALL:
                ways = ways_among(lists, fraction, 4)
                if ways:
                    self.assertIs(type(fewest(fraction, greatest)), list)
                    self.assertEqual(fewest(fraction, greatest), ways[0])
                else:
                    self.assertIsNone(fewest(fraction, greatest))


class Refused(unittest.TestCase):
    def test_no_fraction(self):
        for wrong in NO_FRACTIONS:
            for greatest in [1, 7, 60]:
                for most in [1, 4]:
                    with self.assertRaises(NoFraction):
                        all_ways(wrong, most, greatest)
                with self.assertRaises(NoFraction):
                    fewest(wrong, greatest)

    def test_not_below(self):
        for wrong in NOT_BELOW:
            for greatest in [1, 7, 60]:
                for most in [1, 4]:
                    with self.assertRaises(NotBelow):
                        all_ways(wrong, most, greatest)
                with self.assertRaises(NotBelow):
                    fewest(wrong, greatest)


if __name__ == "__main__":
    unittest.main()
