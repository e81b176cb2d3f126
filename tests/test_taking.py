import unittest
from fractions import Fraction

from unitshares.errors import NoFraction, NotBelow, TooGreat
from unitshares.fractions import is_way
from unitshares.taking import greatest_first, rising, rising_factors, split

REFUSING = [greatest_first, rising_factors, rising]
NO_FRACTIONS = [(-1, 2), (-1, 1), (1, 0), (0, 0), (0, -1), (1, -2), (-1, -2), (-3, 0)]
NOT_BELOW = [(0, 1), (0, 7), (1, 1), (9, 9), (3, 2), (10000, 9999), (2, 1), (10 ** 50, 1)]
GREAT_BOTTOMS = [(1, 10000), (9999, 10000), (5000, 10000), (4998, 9998), (7, 9973), (9967, 9973),
                 (3333, 9999), (10, 10000), (8008, 8011)]


def small_fractions(greatest):
    return [(top, bottom) for bottom in range(2, greatest + 1) for top in range(1, bottom)]


def total(shares):
    return sum([Fraction(1, share) for share in shares], Fraction(0))


def greatest_share(left):
    share = 1
    while Fraction(1, share) > left:
        share += 1
    return share


class GreatestFirst(unittest.TestCase):
    def holds(self, fraction, shares):
        self.assertIs(type(shares), list)
        self.assertEqual(total(shares), Fraction(*fraction))
        left = Fraction(*fraction)
        ahead = 1
        for share in shares:
            self.assertIs(type(share), int)
            self.assertGreater(share, ahead * (ahead - 1))
            self.assertGreater(share, ahead)
            self.assertLess(share, 10 ** 400)
            self.assertLessEqual(Fraction(1, share), left)
            self.assertGreater(Fraction(1, share - 1), left)
            left -= Fraction(1, share)
            ahead = share

    def test_told_examples(self):
        self.assertEqual(greatest_first((5, 6)), [2, 3])
        self.assertEqual(greatest_first((4, 13)), [4, 18, 468])
        self.assertEqual(greatest_first((3, 7)), [3, 11, 231])
        self.assertEqual(greatest_first((5, 121)),
                         [25, 757, 763309, 873960180913, 1527612795642093418846225])

    def test_tops_of_one(self):
        for bottom in [2, 3, 10, 9973, 10000]:
            self.assertEqual(greatest_first((1, bottom)), [bottom])

    def test_not_in_lowest_terms(self):
        self.assertEqual(greatest_first((10, 12)), [2, 3])
        self.assertEqual(greatest_first((5000, 10000)), [2])
        self.assertEqual(greatest_first((3000, 7000)), greatest_first((3, 7)))

    def test_the_first_share_by_trial(self):
        for fraction in small_fractions(20):
            self.assertEqual(greatest_first(fraction)[0], greatest_share(Fraction(*fraction)))

    def test_small_ones(self):
        for fraction in small_fractions(80):
            shares = greatest_first(fraction)
            self.holds(fraction, shares)
            self.assertIs(is_way(fraction, shares), True)

    def test_bottoms_up_to_10000(self):
        for fraction in GREAT_BOTTOMS:
            self.holds(fraction, greatest_first(fraction))

    def test_400_figures_are_told(self):
        shares = greatest_first((2661, 9085))
        self.assertEqual(len(str(shares[-1])), 400)
        self.holds((2661, 9085), shares)

    def test_401_figures_are_refused(self):
        with self.assertRaises(TooGreat):
            greatest_first((1409, 5713))

    def test_the_bound_itself(self):
        self.assertEqual(greatest_first((1, 10 ** 400 - 1)), [10 ** 400 - 1])
        with self.assertRaises(TooGreat):
            greatest_first((1, 10 ** 400))

    def test_far_beyond_400_figures(self):
        for fraction in [(11, 199), (22, 398), (31, 311), (5856, 7487)]:
            with self.assertRaises(TooGreat):
                greatest_first(fraction)


class Rising(unittest.TestCase):
    def holds(self, fraction):
        factors = rising_factors(fraction)
        shares = rising(fraction)
        self.assertIs(type(factors), list)
        self.assertIs(type(shares), list)
        self.assertEqual(factors, sorted(factors))
        left = Fraction(*fraction)
        product = 1
        products = []
        for factor in factors:
            self.assertIs(type(factor), int)
            self.assertGreaterEqual(factor, 2)
            self.assertGreaterEqual(left * factor, 1)
            self.assertLess(left * (factor - 1), 1)
            left = left * factor - 1
            product *= factor
            products.append(product)
        self.assertEqual(left, 0)
        self.assertEqual(shares, products)
        self.assertEqual(total(shares), Fraction(*fraction))
        self.assertIs(is_way(fraction, shares), True)

    def test_told_examples(self):
        self.assertEqual(rising_factors((5, 6)), [2, 2, 3])
        self.assertEqual(rising((5, 6)), [2, 4, 12])
        self.assertEqual(rising_factors((3, 7)), [3, 4, 7])
        self.assertEqual(rising((3, 7)), [3, 12, 84])
        self.assertEqual(rising_factors((7, 8)), [2, 2, 2])
        self.assertEqual(rising((7, 8)), [2, 4, 8])

    def test_tops_of_one(self):
        for bottom in [2, 3, 9973, 10000]:
            self.assertEqual(rising_factors((1, bottom)), [bottom])
            self.assertEqual(rising((1, bottom)), [bottom])

    def test_not_in_lowest_terms(self):
        self.assertEqual(rising_factors((10, 12)), [2, 2, 3])
        self.assertEqual(rising((10, 12)), [2, 4, 12])

    def test_small_ones(self):
        for fraction in small_fractions(80):
            self.holds(fraction)

    def test_bottoms_up_to_10000(self):
        for fraction in GREAT_BOTTOMS + [(11, 199), (1409, 5713)]:
            self.holds(fraction)


class Refused(unittest.TestCase):
    def test_no_fraction(self):
        for function in REFUSING:
            for wrong in NO_FRACTIONS:
                with self.assertRaises(NoFraction):
                    function(wrong)

    def test_not_below(self):
        for function in REFUSING:
            for wrong in NOT_BELOW:
                with self.assertRaises(NotBelow):
                    function(wrong)


class Split(unittest.TestCase):
    def test_the_share_one(self):
        self.assertEqual(split(1), [2, 2])

    def test_ordinary_ones(self):
        self.assertEqual(split(2), [3, 6])
        self.assertEqual(split(3), [4, 12])
        for share in range(1, 200):
            told = split(share)
            self.assertIs(type(told), list)
            self.assertEqual(told, [share + 1, share * (share + 1)])
            self.assertEqual(total(told), Fraction(1, share))

    def test_200_figures(self):
        for share in [10 ** 199, 10 ** 200 - 1]:
            told = split(share)
            self.assertEqual(told, [share + 1, share * share + share])
            self.assertEqual(total(told), Fraction(1, share))


if __name__ == "__main__":
    unittest.main()
