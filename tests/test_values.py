import unittest

from unitshares.errors import ShareError
from unitshares.fractions import added, is_way, less, lowest, sum_of, taken
from unitshares.taking import greatest_first, rising, rising_factors, split

TOLD_LISTS = [(greatest_first, (5, 6)), (greatest_first, (4, 13)), (greatest_first, (1, 9)),
              (rising_factors, (5, 6)), (rising_factors, (1, 9)), (rising, (5, 6)), (rising, (1, 9)),
              (split, 1), (split, 5)]


class HandedIn(unittest.TestCase):
    def test_lists_are_the_same_afterwards(self):
        for shares in [[], [2], [3, 2, 6], [2, 2], [2, 3, 6], [6, 6, 1]]:
            before = list(shares)
            sum_of(shares)
            self.assertEqual(shares, before)
            is_way((1, 1), shares)
            self.assertEqual(shares, before)

    def test_nothing_hangs_on_a_list_handed_in_earlier(self):
        shares = [2, 3]
        first = sum_of(shares)
        self.assertIs(is_way((5, 6), shares), True)
        shares.append(6)
        self.assertEqual(first, (5, 6))
        self.assertEqual(sum_of(shares), (1, 1))
        self.assertIs(is_way((5, 6), shares), False)
        self.assertEqual(sum_of([2, 3]), (5, 6))
        self.assertIs(is_way((5, 6), [2, 3]), True)


class Told(unittest.TestCase):
    def test_a_told_list_that_is_changed_alters_no_later_answer(self):
        for function, asked in TOLD_LISTS:
            told = function(asked)
            kept = list(told)
            told.append(99)
            told[0] = 77
            self.assertEqual(function(asked), kept)

    def test_no_two_told_lists_are_one(self):
        told = [function(asked) for function, asked in TOLD_LISTS + TOLD_LISTS]
        self.assertEqual(len({id(shares) for shares in told}), len(told))

    def test_nothing_hangs_on_earlier_askings(self):
        def all_answers():
            return [function(asked) for function, asked in TOLD_LISTS] + [
                lowest((6, 8)), added((1, 2), (1, 3)), less((1, 2), (1, 3)), taken((1, 2), (1, 3)),
                sum_of([2, 3]), is_way((5, 6), [2, 3])]
        before = all_answers()
        for wrong in [(-1, 2), (1, 0), (0, 3), (4, 3), (11, 199)]:
            for function in [lowest, greatest_first, rising, rising_factors]:
                try:
                    function(wrong)
                except ShareError:
                    pass
        self.assertEqual(all_answers(), before)


if __name__ == "__main__":
    unittest.main()
