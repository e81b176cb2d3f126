import unittest
from fractions import Fraction

from unitshares.errors import NoFraction, NotBelow
from unitshares.fractions import added, is_way, less, lowest, sum_of, taken

NO_FRACTIONS = [(-1, 1), (-1, 5), (1, 0), (0, 0), (0, -1), (1, -3), (-1, -2), (-1, 0),
                (-10 ** 999, 7), (7, -10 ** 999)]
SMALL = [(top, bottom) for top in range(0, 8) for bottom in range(1, 8)]
LONG = 10 ** 999 + 7
LONGER = 10 ** 1000 - 1


def pair(value):
    return (value.numerator, value.denominator)


class Case(unittest.TestCase):
    def tells(self, answer, wanted):
        self.assertIs(type(answer), tuple)
        self.assertEqual([type(number) for number in answer], [int, int])
        self.assertEqual(answer, wanted)


class Lowest(Case):
    def test_small_ones(self):
        for fraction in SMALL:
            self.tells(lowest(fraction), pair(Fraction(*fraction)))

    def test_told_examples(self):
        self.tells(lowest((6, 8)), (3, 4))
        self.tells(lowest((3, 4)), (3, 4))
        self.tells(lowest((12, 4)), (3, 1))
        self.tells(lowest((5, 5)), (1, 1))

    def test_nought_whatever_the_bottom(self):
        for bottom in [1, 2, 9, 10000, LONGER]:
            self.tells(lowest((0, bottom)), (0, 1))

    def test_thousand_figures(self):
        self.tells(lowest((LONG, LONGER)), pair(Fraction(LONG, LONGER)))
        self.tells(lowest((LONGER, LONGER)), (1, 1))
        self.tells(lowest((10 ** 999, 4 * 10 ** 999)), (1, 4))

    def test_no_fraction(self):
        for wrong in NO_FRACTIONS:
            with self.assertRaises(NoFraction):
                lowest(wrong)


class TwoFractions(Case):
    def test_added(self):
        for one in SMALL:
            for other in SMALL:
                self.tells(added(one, other), pair(Fraction(*one) + Fraction(*other)))

    def test_added_cancels(self):
        self.tells(added((1, 6), (1, 3)), (1, 2))
        self.tells(added((2, 12), (10, 12)), (1, 1))
        self.tells(added((0, 5), (0, 9)), (0, 1))

    def test_less(self):
        for one in SMALL:
            for other in SMALL:
                self.assertIs(less(one, other), Fraction(*one) < Fraction(*other))

    def test_less_of_equal_ones_is_false(self):
        self.assertIs(less((1, 2), (2, 4)), False)
        self.assertIs(less((0, 3), (0, 1)), False)

    def test_taken(self):
        for one in SMALL:
            for other in SMALL:
                left = Fraction(*one) - Fraction(*other)
                if left < 0:
                    with self.assertRaises(NotBelow):
                        taken(one, other)
                else:
                    self.tells(taken(one, other), pair(left))

    def test_taken_of_equal_ones(self):
        self.tells(taken((2, 4), (3, 6)), (0, 1))
        self.tells(taken((0, 7), (0, 2)), (0, 1))
        self.tells(taken((LONG, LONGER), (LONG, LONGER)), (0, 1))

    def test_thousand_figures(self):
        one = Fraction(LONGER, LONG)
        other = Fraction(LONG, LONGER)
        self.tells(added((LONGER, LONG), (LONG, LONGER)), pair(one + other))
        self.tells(taken((LONGER, LONG), (LONG, LONGER)), pair(one - other))
        self.assertIs(less((LONG, LONGER), (LONG + 1, LONGER)), True)
        self.assertIs(less((LONG + 1, LONGER), (LONG, LONGER)), False)
        with self.assertRaises(NotBelow):
            taken((LONG, LONGER), (LONG + 1, LONGER))

    def test_no_fraction_in_each_place(self):
        for function in [added, less, taken]:
            for wrong in NO_FRACTIONS:
                for good in [(1, 2), (0, 1), (9, 2)]:
                    with self.assertRaises(NoFraction):
                        function(wrong, good)
                    with self.assertRaises(NoFraction):
                        function(good, wrong)
                with self.assertRaises(NoFraction):
                    function(wrong, wrong)

    def test_no_fraction_ahead_of_not_below(self):
        with self.assertRaises(NoFraction):
            taken((-1, 2), (5, 1))
        with self.assertRaises(NoFraction):
            taken((1, 2), (5, 0))


class SumOf(Case):
    def test_no_shares(self):
        self.tells(sum_of([]), (0, 1))

    def test_one_share(self):
        self.tells(sum_of([1]), (1, 1))
        self.tells(sum_of([7]), (1, 7))

    def test_several(self):
        self.tells(sum_of([2, 3]), (5, 6))
        self.tells(sum_of([2, 3, 6]), (1, 1))
        self.tells(sum_of([1, 2]), (3, 2))

    def test_any_order_and_twice(self):
        self.tells(sum_of([6, 3, 2]), (1, 1))
        self.tells(sum_of([2, 2]), (1, 1))
        self.tells(sum_of([4, 4, 4]), (3, 4))
        self.tells(sum_of([1] * 60), (60, 1))

    def test_against_exact_sums(self):
        for first in range(1, 13):
            for second in range(1, 13):
                for third in range(1, 13):
                    wanted = Fraction(1, first) + Fraction(1, second) + Fraction(1, third)
                    self.tells(sum_of([first, second, third]), pair(wanted))

    def test_sixty_shares_of_400_figures(self):
        unlike = [10 ** 400 - 1 - 2 * place for place in range(60)]
        akin = [10 ** 394 * (place + 1) for place in range(60)]
        for shares in [unlike, akin]:
            wanted = sum([Fraction(1, share) for share in shares], Fraction(0))
            self.tells(sum_of(shares), pair(wanted))


class IsWay(unittest.TestCase):
    def test_ways(self):
        self.assertIs(is_way((5, 6), [2, 3]), True)
        self.assertIs(is_way((1, 7), [7]), True)
        self.assertIs(is_way((3, 4), [2, 6, 12]), True)

    def test_not_in_lowest_terms(self):
        self.assertIs(is_way((10, 12), [2, 3]), True)
        self.assertIs(is_way((10, 13), [2, 3]), False)

    def test_no_shares_come_to_nought(self):
        self.assertIs(is_way((0, 1), []), True)
        self.assertIs(is_way((0, 5), []), True)
        self.assertIs(is_way((1, 5), []), False)
        self.assertIs(is_way((0, 5), [3]), False)

    def test_one_and_more(self):
        self.assertIs(is_way((1, 1), [1]), True)
        self.assertIs(is_way((4, 4), [2, 3, 6]), True)
        self.assertIs(is_way((3, 2), [1, 2]), True)
        self.assertIs(is_way((2, 1), [1, 2]), False)

    def test_shares_that_do_not_rise(self):
        self.assertIs(is_way((5, 6), [3, 2]), False)
        self.assertIs(is_way((1, 1), [2, 6, 3]), False)
        self.assertIs(is_way((1, 1), [3, 2, 6]), False)

    def test_a_share_twice(self):
        self.assertIs(is_way((1, 1), [2, 2]), False)
        self.assertIs(is_way((5, 6), [2, 6, 6]), False)
        self.assertIs(is_way((2, 3), [3, 3]), False)

    def test_another_sum(self):
        self.assertIs(is_way((5, 6), [2, 4]), False)
        self.assertIs(is_way((5, 6), [2]), False)
        self.assertIs(is_way((5, 6), [2, 3, 4]), False)

    def test_400_figures(self):
        great = 10 ** 400 - 1
        wanted = Fraction(1, great - 1) + Fraction(1, great)
        self.assertIs(is_way((1, great), [great]), True)
        self.assertIs(is_way(pair(wanted), [great - 1, great]), True)
        self.assertIs(is_way(pair(wanted), [great, great - 1]), False)
        self.assertIs(is_way((1, great), [great - 1]), False)

    def test_no_fraction(self):
        for wrong in NO_FRACTIONS:
            for shares in [[], [2], [3, 2], [2, 2]]:
                with self.assertRaises(NoFraction):
                    is_way(wrong, shares)


if __name__ == "__main__":
    unittest.main()
