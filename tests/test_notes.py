import unittest

from unitshares.errors import BadText, NotRising
from unitshares.notes import read, shown

GREAT = 10 ** 400 - 1
RISING = [[], [1], [2], [7], [10], [1, 2], [2, 3], [2, 3, 6], [1, 10, 100, 1000], [9, 10], [99, 100],
          list(range(1, 61)), [GREAT], [10 ** 399], [2, GREAT], [GREAT - 2, GREAT - 1, GREAT],
          [10 ** place for place in range(60)]]


def row(shares):
    return " + ".join(["1/" + str(share) for share in shares])


class Shown(unittest.TestCase):
    def tells(self, shares, wanted):
        text = shown(shares)
        self.assertIs(type(text), str)
        self.assertEqual(text, wanted)

    def test_no_shares(self):
        self.tells([], "0")

    def test_one_share(self):
        self.tells([1], "1/1")
        self.tells([2], "1/2")
        self.tells([100], "1/100")

    def test_many_shares(self):
        self.tells([2, 3], "1/2 + 1/3")
        self.tells([2, 3, 6], "1/2 + 1/3 + 1/6")
        self.tells(list(range(1, 61)), row(range(1, 61)))

    def test_lists_that_do_not_rise(self):
        self.tells([3, 2], "1/3 + 1/2")
        self.tells([2, 2], "1/2 + 1/2")

    def test_400_figures(self):
        self.tells([GREAT], "1/" + "9" * 400)
        self.tells([GREAT] * 60, " + ".join(["1/" + "9" * 400] * 60))


class Read(unittest.TestCase):
    def tells(self, text, wanted):
        shares = read(text)
        self.assertIs(type(shares), list)
        self.assertEqual([type(share) for share in shares], [int] * len(shares))
        self.assertEqual(shares, wanted)

    def refuses(self, texts, error):
        for text in texts:
            with self.subTest(text=text[:60]):
                with self.assertRaises(error) as caught:
                    read(text)
                self.assertIs(type(caught.exception), error)

    def test_told_examples(self):
        self.tells("0", [])
        self.tells("1/1", [1])
        self.tells("1/2", [2])
        self.tells("1/2 + 1/3", [2, 3])
        self.tells("1/9 + 1/10 + 1/100", [9, 10, 100])

    def test_what_is_written_is_read_to_the_same_list(self):
        for shares in RISING:
            self.tells(shown(shares), shares)

    def test_400_figures_and_401(self):
        self.tells("1/" + "9" * 400, [GREAT])
        self.tells("1/1" + "0" * 399, [10 ** 399])
        self.tells("1/2 + 1/1" + "0" * 399, [2, 10 ** 399])
        self.refuses(["1/1" + "0" * 400, "1/" + "9" * 401, "1/2 + 1/1" + "0" * 400], BadText)

    def test_noughts_ahead_and_shares_of_nought(self):
        self.refuses(["1/0", "1/00", "1/02", "1/002", "1/2 + 1/03", "1/02 + 1/3", "1/2 + 1/0", "01/2", "00",
                      "1/0 + 1/2", "1/0" + "9" * 399, "1/0" + "9" * 400], BadText)

    def test_signs(self):
        self.refuses(["+1/2", "-1/2", "1/+2", "1/-2", "-0", "+0", "1/2 - 1/3", "1/2 + -1/3", "1/2 + 1/-3",
                      "1/2 + +1/3", "1/2 + + 1/3", "1/2 ++ 1/3", "1/1_0", "1/2.", "1/2,", "1/2e1", "1/0x2"], BadText)

    def test_blanks(self):
        self.refuses([" 1/2", "1/2 ", " 0", "0 ", " ", "  ", "1 /2", "1/ 2", "1/2+1/3", "1/2 +1/3", "1/2+ 1/3",
                      "1/2  + 1/3", "1/2 +  1/3", "1/2 1/3", "1/2  1/3", " 1/2 + 1/3", "1/2 + 1/3 ",
                      "1/1 2"], BadText)

    def test_tabs_and_line_ends(self):
        self.refuses(["\t1/2", "1/2\t", "1/2\n", "\n1/2", "0\n", "\n0", "0\t", "\n", "\t", "1/2\t+\t1/3",
                      "1/2\n+\n1/3", "1/2 +\t1/3", "1/2 + 1/3\n", "1/2 + \n1/3", "1/2\n + 1/3", "1/\n2",
                      "1/2\n1/3"], BadText)

    def test_pieces_missing(self):
        self.refuses(["", "+", " + ", "1/2 + ", " + 1/2", "1/2 +", "+ 1/2", "1/2 +  + 1/3", "1/", "/2", "1", "2",
                      "1/2 + 1/", "1/2 + 1", "1/2 + /3", "/"], BadText)

    def test_nought_with_more_beside_it(self):
        self.refuses(["0 + 1/2", "1/2 + 0", "0 + 0", "0 + 1/2 + 1/3", "1/2 + 0 + 1/3", "00", "0/1", "0/2", "10"],
                     BadText)

    def test_other_tops(self):
        self.refuses(["2/3", "0/3", "11/2", "10/2", "1/2 + 2/3", "2/3 + 1/4", "a/2", "//2", "1//2", "1/1/2"], BadText)

    def test_other_words(self):
        self.refuses(["a", "1/a", "1/2a", "half", "1/2 + third", "[2, 3]", "2, 3", "1/2 and 1/3", "1\\2", "~", "1/~",
                      "1/(2)"], BadText)

    def test_shares_that_do_not_rise(self):
        self.refuses(["1/3 + 1/2", "1/2 + 1/1", "1/2 + 1/6 + 1/3", "1/3 + 1/2 + 1/6", "1/10 + 1/9",
                      "1/" + "9" * 400 + " + 1/1" + "0" * 399], NotRising)

    def test_shares_that_stand_twice(self):
        self.refuses(["1/2 + 1/2", "1/1 + 1/1", "1/2 + 1/3 + 1/3", "1/2 + 1/2 + 1/3",
                      row([GREAT, GREAT])], NotRising)

    def test_bad_text_goes_ahead_of_not_rising(self):
        self.refuses(["1/3 + 1/2 + ", "1/3 + 1/2 + 1/04", "1/3 + 1/2\n", "1/2 + 1/2 + 0", "1/02 + 1/1",
                      "1/3 + 1/2 + x", " 1/2 + 1/2", "1/3 + 1/2 + 1/" + "9" * 401, "1/" + "9" * 401 + " + 1/2"],
                     BadText)

    def test_3000_signs(self):
        shares = list(range(100, 469)) + [10 ** 45]
        self.assertEqual(len(row(shares)), 3000)
        self.tells(row(shares), shares)
        self.refuses([row(shares)[:-1] + " ", row(shares)[:-1] + "\n", "9" * 3000, "1/" + "9" * 2998, " " * 3000,
                      "0" * 3000, "\n" * 3000, " + " * 1000, "1/" * 1500], BadText)
        same = row([2] * 500)
        falling = row(range(600, 226, -1))
        self.assertGreater(min(len(same), len(falling)), 2980)
        self.refuses([same, falling], NotRising)


if __name__ == "__main__":
    unittest.main()
