"""[3], [10], [71]: what numbers, amounts, times, names, keys, secrets, lists and pairs are."""

import unittest

from clearyard import words
from things import MOST, NOT_AMOUNTS, NOT_COUNTS, NOT_LISTS, NOT_NAMES, NOT_NUMBERS, NOT_TIMES, Case


class Words(Case):

    def just(self, told, these, not_these):
        for thing in these:
            self.assertIs(told(thing), True, repr(thing))
        for thing in not_these:
            self.assertIs(told(thing), False, repr(thing))

    def test_number(self):
        self.just(words.is_number, [0, 1, -1, 10 ** 39, -10 ** 39], NOT_NUMBERS)

    def test_count(self):
        self.just(words.is_count, [1, 2, MOST + 1, 10 ** 39], NOT_COUNTS)

    def test_amount(self):
        self.just(words.is_amount, [1, 2, MOST - 1, MOST], NOT_AMOUNTS)

    def test_whole(self):
        self.just(words.is_whole, [0, 1, MOST + 1, 10 ** 39], NOT_TIMES)

    def test_time(self):
        self.just(words.is_time, [0, 1, MOST + 1, 10 ** 39], NOT_TIMES)

    def test_name(self):
        self.just(words.is_name, ["a", "z", "ann", "abcdefgh", "zzzzzzzz"], NOT_NAMES)
        self.assertFalse(words.is_name("\u00e9"))
        for sign in [chr(code) for code in range(32, 127)]:
            self.assertIs(words.is_name("a" + sign), "a" <= sign <= "z", sign)
            self.assertIs(words.is_name(sign), "a" <= sign <= "z", sign)

    def test_digest(self):
        self.just(words.is_digest, [0, 1, MOST + 1, 10 ** 30 - 1, 10 ** 30], [*NOT_TIMES, 10 ** 30 + 1, 10 ** 39])

    def test_keys_and_secrets(self):
        spoiled = [thing for thing in NOT_NAMES if thing not in ("abcdefghi", "toolongname")]
        for told in (words.is_key, words.is_secret):
            self.just(told, ["a", "z", "ann", "abcdefghi", "toolongname", "z" * 20], [*spoiled, "z" * 21, "a" * 19 + "A", "a" * 19 + " "])
            for sign in [chr(code) for code in range(32, 127)]:
                self.assertIs(told("a" + sign), "a" <= sign <= "z", sign)

    def test_read_number(self):
        for number in (0, 1, 9, 10, 99, 100, 10 ** 39):
            self.assertEqual(repr(words.read_number(str(number))), repr(number))
        for word in ("", " ", "00", "01", "007", "+1", "-1", "-0", "1 ", " 1", "1.0", "1e3", "1_0", "x", "1x", "0x1", "True", "\n", "1\n", "\u00b2", "\u0661"):
            self.assertIsNone(words.read_number(word), word)
        self.assertEqual(words.read_number("9" * 900), 10 ** 900 - 1)
        for many in (901, 4300, 4301, 8000):
            self.assertIsNone(words.read_number("9" * many))

    def test_list(self):
        self.just(words.is_list, [[], (), [1], (1, 2)], NOT_LISTS)

    def test_pair(self):
        self.just(words.is_pair, [(1, 2), ("ann", 5), (None, [])], [(), (1,), (1, 2, 3), [1, 2], ["ann", 5], *NOT_LISTS])


if __name__ == "__main__":
    unittest.main()
