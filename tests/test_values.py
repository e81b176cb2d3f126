import unittest

from unitshares.all_ways import all_ways, fewest
from unitshares.errors import ShareError
from unitshares.fractions import added, is_way, less, lowest, sum_of, taken
from unitshares.notes import read, shown
from unitshares.parting import divisors, goes_by, handy, least_lack, parts
from unitshares.taking import greatest_first, rising, rising_factors, split

# What is asked, and how to draw all lists out of what is told.
TOLD = [
    (lambda: greatest_first((5, 6)), lambda told: [told]),
    (lambda: greatest_first((4, 13)), lambda told: [told]),
    (lambda: greatest_first((1, 9)), lambda told: [told]),
    (lambda: rising_factors((5, 6)), lambda told: [told]),
    (lambda: rising_factors((1, 9)), lambda told: [told]),
    (lambda: rising((5, 6)), lambda told: [told]),
    (lambda: rising((1, 9)), lambda told: [told]),
    (lambda: split(1), lambda told: [told]),
    (lambda: split(5), lambda told: [told]),
    (lambda: divisors(1), lambda told: [told]),
    (lambda: divisors(12), lambda told: [told]),
    (lambda: parts(12, 0), lambda told: [told]),
    (lambda: parts(12, 11), lambda told: [told]),
    (lambda: parts(45, 17), lambda told: [told]),
    (lambda: goes_by((1, 2), 1), lambda told: [told[1]]),
    (lambda: goes_by((3, 7), 9), lambda told: [told[1]]),
    (lambda: all_ways((1, 2), 1, 60), lambda told: [told] + told),
    (lambda: all_ways((5, 6), 4, 60), lambda told: [told] + told),
    (lambda: all_ways((1, 61), 4, 60), lambda told: [told] + told),
    (lambda: fewest((5, 6), 60), lambda told: [told]),
    (lambda: fewest((1, 9), 60), lambda told: [told]),
    (lambda: read("0"), lambda told: [told]),
    (lambda: read("1/2 + 1/3"), lambda told: [told])]


def plain_answers():
    return [lowest((6, 8)), added((1, 2), (1, 3)), less((1, 2), (1, 3)), taken((1, 2), (1, 3)), sum_of([2, 3]),
            is_way((5, 6), [2, 3]), least_lack(12), handy(12), shown([]), shown([2, 3]), parts(7, 3),
            goes_by((3, 7), 2), fewest((1, 61), 60)]


class HandedIn(unittest.TestCase):
    def test_lists_are_the_same_afterwards(self):
        for shares in [[], [2], [3, 2, 6], [2, 2], [2, 3, 6], [6, 6, 1]]:
            before = list(shares)
            sum_of(shares)
            self.assertEqual(shares, before)
            is_way((1, 1), shares)
            self.assertEqual(shares, before)
            shown(shares)
            self.assertEqual(shares, before)

    def test_nothing_hangs_on_a_list_handed_in_earlier(self):
        shares = [2, 3]
        first = sum_of(shares)
        text = shown(shares)
        self.assertIs(is_way((5, 6), shares), True)
        shares.append(6)
        self.assertEqual(first, (5, 6))
        self.assertEqual(text, "1/2 + 1/3")
        self.assertEqual(sum_of(shares), (1, 1))
        self.assertEqual(shown(shares), "1/2 + 1/3 + 1/6")
        self.assertIs(is_way((5, 6), shares), False)
        self.assertEqual(sum_of([2, 3]), (5, 6))
        self.assertEqual(shown([2, 3]), "1/2 + 1/3")
        self.assertIs(is_way((5, 6), [2, 3]), True)


class Told(unittest.TestCase):
    def test_a_told_list_that_is_changed_alters_no_later_answer(self):
        for place, (ask, lists) in enumerate(TOLD):
            wanted = repr(ask())
            for changed in reversed(lists(ask())):
                changed.append(99)
                changed[0] = 77
            self.assertEqual(repr(ask()), wanted, place)

    def test_changing_one_told_list_leaves_the_others(self):
        kept = [ask() for ask, lists in TOLD]
        before = repr(kept)
        for ask, lists in TOLD:
            for changed in reversed(lists(ask())):
                changed.insert(0, 77)
        self.assertEqual(repr(kept), before)

    def test_no_two_told_lists_are_one(self):
        answers = [(ask(), lists) for ask, lists in TOLD + TOLD]
        told = []
        for answer, lists in answers:
            told.extend(lists(answer))
        self.assertEqual(len({id(one) for one in told}), len(told))

    def test_nothing_hangs_on_earlier_askings(self):
        def all_answers():
            return [ask() for ask, lists in TOLD] + plain_answers()
        before = all_answers()
        for wrong in [(-1, 2), (1, 0), (0, 3), (4, 3), (11, 199)]:
            for function in [lowest, greatest_first, rising, rising_factors, lambda one: goes_by(one, 9),
                             lambda one: all_ways(one, 4, 60), lambda one: fewest(one, 60)]:
                try:
                    function(wrong)
                except ShareError:
                    pass
        for text in ["", "1/02", "1/3 + 1/2", "1/5"]:
            try:
                read(text)
            except ShareError:
                pass
        self.assertEqual(all_answers(), before)


if __name__ == "__main__":
    unittest.main()
