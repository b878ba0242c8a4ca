"""[3], [10]: what numbers, names, amounts, times, lists and pairs are."""

import unittest

from clearyard import words
from things import MOST, NOT_AMOUNTS, NOT_COUNTS, NOT_LISTS, NOT_NAMES, NOT_NUMBERS, NOT_TIMES, Case


class Words(Case):

    def just(self, told, these, not_these):
        for thing in these:
            self.assertIs(told(thing), True, repr(thing))
        for thing in not_these:
            self.assertIs(told(thing), False, repr(thing))

    def test_number(self):
        self.just(words.is_number, [0, 1, -1, 10 ** 39, -10 ** 39], NOT_NUMBERS)

    def test_count(self):
        self.just(words.is_count, [1, 2, MOST + 1, 10 ** 39], NOT_COUNTS)

    def test_amount(self):
        self.just(words.is_amount, [1, 2, MOST - 1, MOST], NOT_AMOUNTS)

    def test_whole(self):
        self.just(words.is_whole, [0, 1, MOST + 1, 10 ** 39], NOT_TIMES)

    def test_time(self):
        self.just(words.is_time, [0, 1, MOST + 1, 10 ** 39], NOT_TIMES)

    def test_name(self):
        self.just(words.is_name, ["a", "z", "ann", "abcdefgh", "zzzzzzzz"], NOT_NAMES)
        self.assertFalse(words.is_name("\u00e9"))
        for sign in [chr(code) for code in range(32, 127)]:
            self.assertIs(words.is_name("a" + sign), "a" <= sign <= "z", sign)
            self.assertIs(words.is_name(sign), "a" <= sign <= "z", sign)

    def test_list(self):
        self.just(words.is_list, [[], (), [1], (1, 2)], NOT_LISTS)

    def test_pair(self):
        self.just(words.is_pair, [(1, 2), ("ann", 5), (None, [])], [(), (1,), (1, 2, 3), [1, 2], ["ann", 5], *NOT_LISTS])


if __name__ == "__main__":
    unittest.main()
