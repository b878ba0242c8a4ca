"""[71], [4]: locks, seals and sealed states."""

import unittest

from clearyard.errors import NoSeal, NoState
from clearyard.seals import is_sealed, lock_of, seal_of
from clearyard.states import state_text
from things import DIGEST, NOT_DIGESTS, NOT_SECRETS, ODD, Asked, Case, Spoiled, digest

STATE = ("state", 3, 8, 20, 30, ((1, 0, 5, 77, 9), (4, 1, 6, 0, 0)))
TEXT = "state 3 8 20 30 / 1 0 5 77 9 / 4 1 6 0 0"
KEYS = ("anns", "bobs")
SECRETS = ("a", "z", "open", "abcdefghijklmnopqrst", "z" * 20)


def spoiled(text):
    raise Spoiled()


class Locks(Case):

    def test_word_for_word(self):
        for secret in SECRETS:
            asked = Asked()
            self.assertEqual(lock_of(secret, asked), digest("lock " + secret))
            self.assertEqual(lock_of(digest=asked, secret=secret), digest("lock " + secret))
            self.assertEqual(asked.texts, ["lock " + secret] * 2)

    def test_what_the_digest_tells(self):
        for number in (0, 1, DIGEST):
            self.assertEqual(lock_of("a", lambda text: number), number)

    def test_no_secret(self):
        for secret in NOT_SECRETS:
            self.refused(NoSeal, {}, lock_of, secret, spoiled)

    def test_errors_pass_on(self):
        self.assertRaises(Spoiled, lock_of, "a", spoiled)


class Seals(Case):

    def test_word_for_word(self):
        for key in SECRETS:
            asked = Asked()
            self.assertEqual(seal_of(STATE, key, asked), digest(key + " " + TEXT))
            self.assertEqual(seal_of(digest=asked, key=key, state=STATE), digest(key + " " + TEXT))
            self.assertEqual(seal_of(("state", 1, 0, 0, 0, ()), key, asked), digest(key + " state 1 0 0 0"))
            self.assertEqual(asked.texts, [key + " " + TEXT] * 2 + [key + " state 1 0 0 0"])

    def test_no_state_then_no_seal(self):
        for thing in [*ODD, list(STATE), STATE[:5], ("state", 0, 8, 20, 30, ())]:
            self.refused(NoState, {}, seal_of, thing, "anns", spoiled)
            self.refused(NoState, {}, seal_of, thing, None, spoiled)
        for key in NOT_SECRETS:
            self.refused(NoSeal, {}, seal_of, STATE, key, spoiled)

    def test_errors_pass_on(self):
        self.assertRaises(Spoiled, seal_of, STATE, "anns", spoiled)


class Sealed(Case):

    def setUp(self):
        self.sealed = (STATE, digest("anns " + TEXT), digest("bobs " + TEXT))

    def none(self, thing, keys=KEYS, told=digest):
        self.assertIs(is_sealed(thing, keys, told), False, repr(thing))

    def test_by_place_and_by_name(self):
        asked = Asked()
        self.assertIs(is_sealed(self.sealed, KEYS, asked), True)
        self.assertEqual(sorted(set(asked.texts)), ["anns " + TEXT, "bobs " + TEXT])
        self.assertIs(is_sealed(thing=self.sealed, keys=KEYS, digest=digest), True)
        self.assertIs(is_sealed(thing=self.sealed, keys=list(KEYS), digest=digest), True)

    def test_exchanged_or_wrong(self):
        state, one, other = self.sealed
        self.none((state, other, one))
        self.none((state, one, one))
        self.none((state, other, other))
        for wrong in (0, 1, one + 1, one - 1, DIGEST, digest("anns " + state_text(("state", 3, 8, 20, 30, ())))):
            self.none((state, wrong, other))
            self.none((state, one, wrong))
        self.none(self.sealed, KEYS[::-1])
        self.none(self.sealed, ("anns", "cids"))
        self.none(self.sealed, ("cids", "bobs"))
        self.none((("state", 3, 8, 21, 29, STATE[5]), one, other))

    def test_seals_of_other_kinds(self):
        state, one, other = self.sealed
        for thing in [*NOT_DIGESTS, str(one), [one], (one,), -one]:
            self.none((state, thing, other))
            self.none((state, one, thing))
            self.none((state, thing, thing))

    def test_truths(self):
        for number, truth in ((0, False), (1, True)):
            self.assertIs(is_sealed((STATE, number, number), KEYS, lambda text: number), True)
            self.none((STATE, truth, number), KEYS, lambda text: number)
            self.none((STATE, number, truth), KEYS, lambda text: number)
            self.none((STATE, truth, truth), KEYS, lambda text: number)

    def test_bounds_of_seals(self):
        self.assertIs(is_sealed((STATE, DIGEST, DIGEST), KEYS, lambda text: DIGEST), True)
        self.none((STATE, DIGEST + 1, DIGEST), KEYS, lambda text: DIGEST)

    def test_of_anything(self):
        state, one, other = self.sealed
        for thing in [*ODD, 0, 1, state, TEXT, list(self.sealed), self.sealed[:2], (*self.sealed, 0), (self.sealed,), (one, other, state), (list(state), one, other)]:
            self.none(thing, KEYS, spoiled)
        for thing in [*ODD, 0, TEXT, state[:5], ("state", 0, 8, 20, 30, ()), ("state", 3, 8, True, 30, ())]:
            self.none((thing, one, other), KEYS, spoiled)

    def test_keys_that_are_none(self):
        for key in NOT_SECRETS:
            self.none(self.sealed, ("anns", key))
            self.none(self.sealed, (key, "bobs"))
        for keys in ((), ("anns",), ("anns", "bobs", "cids"), None, "ab"):
            self.none(self.sealed, keys)

    def test_errors_pass_on(self):
        asked = Asked()
        many, told = self.spoiled_at_each(asked, lambda: None, is_sealed, self.sealed, KEYS, asked)
        self.assertEqual((many, told), (2, True))


if __name__ == "__main__":
    unittest.main()
