import unittest
from fractions import Fraction
from itertools import combinations
from math import gcd

from unitshares.errors import NoFraction, NotBelow
from unitshares.fractions import is_way
from unitshares.parting import divisors, goes_by, handy, least_lack, parts

NO_FRACTIONS = [(-1, 2), (-1, 1), (1, 0), (0, 0), (0, -1), (1, -2), (-1, -2), (-3, 0), (5, -2), (-10 ** 999, 7)]
NOT_BELOW = [(0, 1), (0, 7), (1, 1), (9, 9), (3, 2), (10000, 9999), (2, 1), (10 ** 50, 1), (0, 5000)]


def plain_divisors(number):
    low = [tried for tried in range(1, number + 1) if tried * tried <= number and number % tried == 0]
    return sorted(set(low + [number // tried for tried in low]))


def sums(number):
    """All sums of unlike divisors, each with the greatest list, told from the greatest on."""
    falling = plain_divisors(number)[::-1]
    best = {}
    for count in range(len(falling) + 1):
        for chosen in combinations(falling, count):
            total = sum(chosen)
            best[total] = max(best.get(total, []), list(chosen))
    return best


def sums_by_steps(number):
    """As sums, for numbers with many divisors: one divisor after another, from the least on."""
    best = {0: []}
    for divisor in plain_divisors(number):
        for total, chosen in list(best.items()):
            longer = [divisor] + chosen
            best[total + divisor] = max(best.get(total + divisor, []), longer)
    return best


def first_way(top, bottom, most, tables):
    common = gcd(top, bottom)
    top //= common
    bottom //= common
    for times in range(1, most + 1):
        number = times * bottom
        if number > 1000:
            return None
        if number not in tables:
            tables[number] = sums_by_steps(number)
        if times * top in tables[number]:
            return (times, [number // part for part in tables[number][times * top]])
    return None


class Divisors(unittest.TestCase):
    def tells(self, number, wanted):
        told = divisors(number)
        self.assertIs(type(told), list)
        self.assertEqual(told, wanted)

    def test_one(self):
        self.tells(1, [1])

    def test_primes(self):
        for prime in [2, 3, 5, 31, 499, 997]:
            self.tells(prime, [1, prime])

    def test_squares(self):
        self.tells(4, [1, 2, 4])
        self.tells(9, [1, 3, 9])
        self.tells(36, [1, 2, 3, 4, 6, 9, 12, 18, 36])
        self.tells(961, [1, 31, 961])

    def test_1000(self):
        self.tells(1000, [1, 2, 4, 5, 8, 10, 20, 25, 40, 50, 100, 125, 200, 250, 500, 1000])

    def test_all_of_them(self):
        for number in range(1, 1001):
            self.tells(number, plain_divisors(number))


class Parts(unittest.TestCase):
    def tells(self, number, wanted, told):
        answer = parts(number, wanted)
        if told is None:
            self.assertIsNone(answer, (number, wanted))
        else:
            self.assertIs(type(answer), list)
            self.assertEqual(answer, told, (number, wanted))

    def test_nought_is_the_sum_of_none(self):
        for number in [1, 2, 7, 6, 45, 840, 1000]:
            self.tells(number, 0, [])

    def test_numbers_that_are_parted(self):
        self.tells(1, 1, [1])
        self.tells(6, 4, [3, 1])
        self.tells(6, 5, [3, 2])
        self.tells(6, 6, [6])
        self.tells(6, 12, [6, 3, 2, 1])
        self.tells(28, 12, [7, 4, 1])
        self.tells(12, 7, [6, 1])
        self.tells(1000, 1000, [1000])

    def test_numbers_that_are_not_parted(self):
        for number, wanted in [(1, 2), (3, 2), (7, 2), (7, 6), (10, 4), (10, 9), (15, 7), (997, 2), (997, 996)]:
            self.tells(number, wanted, None)

    def test_above_the_sum_of_all_divisors(self):
        self.tells(960, 3048, plain_divisors(960)[::-1])
        self.tells(960, 3049, None)
        for number in [1, 2, 12, 840, 960, 997, 1000]:
            whole = sum(plain_divisors(number))
            self.tells(number, whole, plain_divisors(number)[::-1])
            for wanted in [whole + 1, whole + 2, 3999, 4000]:
                self.tells(number, wanted, None)

    def test_where_the_greatest_that_fits_leads_nowhere(self):
        # 15 fits into 17, but the 2 that it leaves is no sum of unlike divisors of 45.
        self.tells(45, 17, [9, 5, 3])
        self.tells(45, 62, [45, 9, 5, 3])

    def test_where_another_sum_has_fewer_parts(self):
        self.tells(40, 13, [10, 2, 1])
        self.tells(56, 11, [8, 2, 1])
        self.tells(56, 81, [56, 14, 8, 2, 1])

    def test_against_all_sums(self):
        for number in list(range(1, 91)) + [96, 105, 135, 225]:
            best = sums(number)
            for wanted in range(0, max(best) + 4):
                self.tells(number, wanted, best.get(wanted))

    def test_great_numbers_with_many_divisors(self):
        for number in [720, 840, 900, 945, 960, 975, 990, 1000]:
            best = sums_by_steps(number)
            for wanted in list(range(0, 400, 7)) + list(range(400, 4001, 61)) + [3999, 4000]:
                self.tells(number, wanted, best.get(wanted))


class Lack(unittest.TestCase):
    def test_one(self):
        self.assertEqual(least_lack(1), 2)
        self.assertIs(handy(1), True)

    def test_odd_numbers(self):
        for number in [3, 5, 9, 15, 45, 105, 945, 997, 999]:
            self.assertEqual(least_lack(number), 2)
            self.assertIs(handy(number), False)

    def test_even_numbers_that_are_not_handy(self):
        for number, lack in [(10, 4), (14, 4), (44, 8), (50, 4), (70, 4), (102, 13), (136, 16), (998, 4)]:
            self.assertEqual(least_lack(number), lack)
            self.assertIs(handy(number), False)

    def test_perfect_numbers(self):
        for number in [6, 28, 496]:
            self.assertEqual(least_lack(number), 2 * number + 1)
            self.assertIs(handy(number), True)

    def test_handy_numbers(self):
        told = [number for number in range(1, 101) if handy(number)]
        self.assertEqual(told, [1, 2, 4, 6, 8, 12, 16, 18, 20, 24, 28, 30, 32, 36, 40, 42, 48, 54, 56, 60, 64, 66,
                                72, 78, 80, 84, 88, 90, 96, 100])
        for number in [512, 840, 960, 1000]:
            self.assertEqual(least_lack(number), sum(plain_divisors(number)) + 1)
            self.assertIs(handy(number), True)

    def test_against_all_sums(self):
        for number in list(range(1, 120)) + [945, 996, 997, 998, 999]:
            best = sums(number)
            lack = 1
            while lack in best:
                lack += 1
            self.assertIs(type(least_lack(number)), int)
            self.assertEqual(least_lack(number), lack, number)
            self.assertIs(handy(number), all([wanted in best for wanted in range(1, number + 1)]))


class GoesBy(unittest.TestCase):
    def tells(self, fraction, most, wanted):
        answer = goes_by(fraction, most)
        if wanted is None:
            self.assertIsNone(answer, (fraction, most))
            return
        self.assertIs(type(answer), tuple)
        self.assertEqual([type(one) for one in answer], [int, list])
        self.assertEqual(answer, wanted, (fraction, most))
        self.assertIs(is_way(fraction, answer[1]), True)
        self.assertEqual(answer[1], sorted(set(answer[1])))
        self.assertEqual(sum([Fraction(1, share) for share in answer[1]]), Fraction(*fraction))

    def test_by_one(self):
        self.tells((1, 2), 1, (1, [2]))
        self.tells((5, 6), 1, (1, [2, 3]))
        self.tells((5, 6), 1000, (1, [2, 3]))
        self.tells((7, 12), 9, (1, [2, 12]))
        self.tells((1, 997), 1, (1, [997]))

    def test_by_a_greater_least_one(self):
        self.tells((2, 3), 2, (2, [2, 6]))
        self.tells((2, 3), 1000, (2, [2, 6]))
        self.tells((4, 5), 2, (2, [2, 5, 10]))
        self.tells((3, 7), 4, (4, [4, 7, 28]))
        self.tells((3, 7), 1000, (4, [4, 7, 28]))

    def test_none_up_to_most(self):
        self.tells((2, 3), 1, None)
        self.tells((4, 5), 1, None)
        for most in [1, 2, 3]:
            self.tells((3, 7), most, None)

    def test_lowest_terms_first(self):
        # 6 parts 4, but in lowest terms the bottom is 3, which does not part 2.
        self.tells((4, 6), 1, None)
        self.tells((4, 6), 2, (2, [2, 6]))
        self.tells((10, 12), 1, (1, [2, 3]))
        self.tells((5000, 10000), 1, (1, [2]))
        self.tells((3000, 7000), 1000, (4, [4, 7, 28]))

    def test_the_bound_of_1000(self):
        self.tells((1, 1000), 1, (1, [1000]))
        self.tells((10, 10000), 1000, (1, [1000]))
        self.tells((1, 1001), 1000, None)
        self.tells((9, 9009), 1000, None)
        self.tells((9999, 10000), 1000, None)
        self.tells((250, 499), 1000, (2, [2, 998]))

    def test_where_it_would_go_only_above_1000(self):
        # By 3 the number would be 1002, which parts 513.
        self.assertEqual(parts(1002, 513), [501, 6, 3, 2, 1])
        self.tells((171, 334), 3, None)
        self.tells((171, 334), 1000, None)
        self.assertIsNotNone(parts(1002, 4))
        self.tells((2, 501), 1000, None)
        self.tells((2, 997), 1000, None)

    def test_the_parts_told_make_the_way(self):
        self.tells((13, 40), 1, (1, [4, 20, 40]))
        self.tells((17, 45), 1, (1, [5, 9, 15]))

    def test_against_all_sums(self):
        tables = {}
        for bottom in range(2, 34):
            for top in range(1, bottom):
                for most in [1, 2, 3, 5, 12, 1000]:
                    self.tells((top, bottom), most, first_way(top, bottom, most, tables))

    def test_great_bottoms_against_all_sums(self):
        tables = {}
        for bottom in list(range(36, 1001, 41)) + [83, 47, 499, 500, 501, 1000, 1001, 2000, 9990, 10000]:
            for top in range(1, bottom, max(1, bottom // 9)):
                for most in [1, 3, 1000]:
                    self.tells((top, bottom), most, first_way(top, bottom, most, tables))

    def test_no_fraction(self):
        for wrong in NO_FRACTIONS:
            for most in [1, 5, 1000]:
                with self.assertRaises(NoFraction):
                    goes_by(wrong, most)

    def test_not_below(self):
        for wrong in NOT_BELOW:
            for most in [1, 5, 1000]:
                with self.assertRaises(NotBelow):
                    goes_by(wrong, most)


if __name__ == "__main__":
    unittest.main()
