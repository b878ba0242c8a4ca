"""[72], [4]: moves, each at its bounds, and who moves."""

import random
import unittest

from clearyard.errors import NoMove, NoState
from clearyard.moves import moved, mover
from clearyard.states import is_state, worth
from things import DIGEST, MOST, NOT_AMOUNTS, NOT_COUNTS, NOT_DIGESTS, NOT_SECRETS, NOT_TIMES, ODD, Asked, Case, Spoiled, digest

GREAT = 10 ** 10
OPEN, SHUT = digest("lock open"), digest("lock shut")

# Promises of both parties, by locks of two secrets.
PROMISES = ((2, 0, 5, OPEN, 9), (4, 1, 6, OPEN, 0), (7, 0, 1, SHUT, 3))


def state_of(turn, x=20, y=30, promises=PROMISES):
    return ("state", 3, turn, x, y, promises)


def spoiled(text):
    raise Spoiled()


class Movers(Case):

    def test_by_turns(self):
        self.assertEqual([mover(state_of(turn)) for turn in (0, 1, 2, 3, 10 ** 39)], [0, 1, 0, 1, 0])
        self.assertEqual(repr(mover(state=state_of(7))), "1")

    def test_no_state(self):
        for thing in [*ODD, list(state_of(0)), state_of(-1), state_of(True), state_of(0, promises=PROMISES[::-1])]:
            self.refused(NoState, {}, mover, thing)
            for party in (0, 1, None):
                self.refused(NoState, {}, moved, thing, party, ("pass",), spoiled)
            self.refused(NoState, {}, moved, thing, 0, None, spoiled)


class Moved(Case):

    def leads(self, state, party, move, x, y, promises, told=digest):
        """That the move leads to just this, and that it is the mover's alone."""
        after = moved(state, party, move, told)
        self.assertEqual(repr(after), repr(("state", state[1], state[2] + 1, x, y, tuple(promises))))
        self.assertEqual(moved(digest=told, move=move, party=party, state=state), after)
        self.assertTrue(is_state(after))
        self.assertEqual(worth(after), worth(state))
        for other in (1 - party, bool(party), None, -1, 2, "0", [party], (party,), {}):
            self.refused(NoMove, {}, moved, state, other, move, told)
        self.none(("state", *state[1:2], state[2] + 1, *state[3:]), party, move, told)
        for spoiled_move in (list(move), move[:-1], (*move, 1), (move,), (move[0].upper(), *move[1:]), (None, *move[1:]), ([move[0]], *move[1:])):
            self.none(state, party, spoiled_move, told)

    def none(self, state, party, move, told=digest):
        self.refused(NoMove, {}, moved, state, party, move, told)

    def test_pay(self):
        self.leads(state_of(0), 0, ("pay", 1), 19, 31, PROMISES)
        self.leads(state_of(0), 0, ("pay", 20), 0, 50, PROMISES)
        self.leads(state_of(1), 1, ("pay", 30), 50, 0, PROMISES)
        self.none(state_of(0), 0, ("pay", 21))
        self.none(state_of(1), 1, ("pay", 31))
        self.leads(state_of(0, MOST, 0, ()), 0, ("pay", MOST), 0, MOST, ())
        self.none(state_of(0, MOST + 1, 0, ()), 0, ("pay", MOST + 1))
        for amount in NOT_AMOUNTS:
            self.none(state_of(0), 0, ("pay", amount))

    def test_sums_too_great(self):
        self.leads(state_of(0, 5, GREAT - 5, ()), 0, ("pay", 5), 0, GREAT, ())
        self.none(state_of(0, 5, GREAT - 4, ()), 0, ("pay", 5))
        self.leads(state_of(1, GREAT - 1, 1, ()), 1, ("pay", 1), GREAT, 0, ())
        self.none(state_of(1, GREAT, 1, ()), 1, ("pay", 1))
        self.leads(state_of(0, GREAT - 6, 0), 0, ("claim", 4, "open"), GREAT, 0, (PROMISES[0], PROMISES[2]))
        self.none(state_of(0, GREAT - 5, 0), 0, ("claim", 4, "open"))
        self.leads(state_of(0, GREAT - 5, 0), 0, ("late", 2), GREAT, 0, PROMISES[1:])
        self.none(state_of(0, GREAT - 4, 0), 0, ("late", 2))
        self.leads(state_of(1, GREAT - 5, 0), 1, ("back", 2), GREAT, 0, PROMISES[1:])
        self.none(state_of(1, GREAT - 4, 0), 1, ("back", 2))

    def test_give(self):
        self.leads(state_of(0), 0, ("give", 8, 20, 77, 5), 0, 30, [*PROMISES, (8, 0, 20, 77, 5)])
        self.leads(state_of(1), 1, ("give", 8, 30, 0, 0), 20, 0, [*PROMISES, (8, 1, 30, 0, 0)])
        self.leads(state_of(1), 1, ("give", 10 ** 39, 1, DIGEST, 10 ** 39), 20, 29, [*PROMISES, (10 ** 39, 1, 1, DIGEST, 10 ** 39)])
        self.leads(state_of(0, promises=()), 0, ("give", 1, 1, 77, 5), 19, 30, [(1, 0, 1, 77, 5)])
        self.leads(state_of(0, MOST, 0, ()), 0, ("give", 1, MOST, 77, 5), 0, 0, [(1, 0, MOST, 77, 5)])
        self.none(state_of(0), 0, ("give", 8, 21, 77, 5))
        self.none(state_of(1), 1, ("give", 8, 31, 77, 5))

    def test_give_of_a_mark_that_is_not_greater(self):
        for mark in (1, 2, 3, 4, 5, 6, 7, *NOT_COUNTS):
            self.none(state_of(0), 0, ("give", mark, 1, 77, 5))
        for mark in NOT_COUNTS:
            self.none(state_of(0, promises=()), 0, ("give", mark, 1, 77, 5))

    def test_give_of_the_fourth_and_the_fifth(self):
        four = state_of(0, promises=(*PROMISES, (8, 1, 1, 0, 0)))
        self.none(four, 0, ("give", 9, 1, 77, 5))
        self.leads(state_of(0), 0, ("give", 9, 1, 77, 5), 19, 30, [*PROMISES, (9, 0, 1, 77, 5)])

    def test_give_of_other_parts(self):
        for at, spoiled_parts in ((2, NOT_AMOUNTS), (3, NOT_DIGESTS), (4, NOT_TIMES)):
            for part in spoiled_parts:
                move = ["give", 9, 1, 77, 5]
                move[at] = part
                self.none(state_of(0), 0, tuple(move))
                self.none(state_of(0, promises=()), 0, tuple(move))

    def test_claim(self):
        self.leads(state_of(0), 0, ("claim", 4, "open"), 26, 30, (PROMISES[0], PROMISES[2]))
        self.leads(state_of(1), 1, ("claim", 2, "open"), 20, 35, PROMISES[1:])
        self.leads(state_of(1), 1, ("claim", 7, "shut"), 20, 31, PROMISES[:2])
        for mark, secret in ((4, "shut"), (4, "opens"), (2, "open"), (7, "shut"), (1, "open"), (3, "open"), (5, "open"), (8, "open")):
            self.none(state_of(0), 0, ("claim", mark, secret))
        for mark, secret in ((7, "open"), (2, "shut"), (4, "open")):
            self.none(state_of(1), 1, ("claim", mark, secret))
        for mark in NOT_COUNTS:
            self.none(state_of(0), 0, ("claim", mark, "open"))
        for secret in [*NOT_SECRETS, OPEN]:
            self.none(state_of(0), 0, ("claim", 4, secret))

    def test_claim_by_any_secret_of_the_lock(self):
        def alike(text):
            return 77 if text in ("lock a", "lock " + "z" * 20) else 78
        promises = ((1, 1, 5, 77, 9),)
        for secret in ("a", "z" * 20):
            self.leads(state_of(0, promises=promises), 0, ("claim", 1, secret), 25, 30, (), alike)
        for secret in ("b", "z" * 19, "z" * 21):
            self.none(state_of(0, promises=promises), 0, ("claim", 1, secret), alike)

    def test_back(self):
        self.leads(state_of(0), 0, ("back", 4), 20, 36, (PROMISES[0], PROMISES[2]))
        self.leads(state_of(1), 1, ("back", 2), 25, 30, PROMISES[1:])
        self.leads(state_of(1), 1, ("back", 7), 21, 30, PROMISES[:2])
        for party, marks in ((0, (1, 2, 3, 5, 7, 8)), (1, (1, 3, 4, 8))):
            for mark in (*marks, *NOT_COUNTS):
                self.none(state_of(party), party, ("back", mark))

    def test_late(self):
        self.leads(state_of(0), 0, ("late", 2), 25, 30, PROMISES[1:])
        self.leads(state_of(0), 0, ("late", 7), 21, 30, PROMISES[:2])
        self.leads(state_of(1), 1, ("late", 4), 20, 36, (PROMISES[0], PROMISES[2]))
        for party, marks in ((1, (1, 2, 3, 5, 7, 8)), (0, (1, 3, 4, 8))):
            for mark in (*marks, *NOT_COUNTS):
                self.none(state_of(party), party, ("late", mark))

    def test_marks_that_are_truths(self):
        promises = ((1, 0, 5, OPEN, 9), (2, 1, 6, OPEN, 0))
        for party, mark in ((1, 1), (0, 2)):
            self.leads(state_of(party, promises=promises), party, ("claim", mark, "open"), *((20, 35) if party else (26, 30)), [promises[2 - mark]])
        for word, party in (("back", 1), ("late", 0), ("claim", 1)):
            more = ("open",) if word == "claim" else ()
            moved(state_of(party, promises=promises), party, (word, 1, *more), digest)
            for mark in (True, "1", (1,), [1]):
                self.none(state_of(party, promises=promises), party, (word, mark, *more))

    def test_pass(self):
        self.leads(state_of(0), 0, ("pass",), 20, 30, PROMISES)
        self.leads(state_of(10 ** 39 + 1, 0, 0, ()), 1, ("pass",), 0, 0, ())

    def test_of_anything(self):
        for party in (0, 1):
            for move in [
                *ODD, 0, 1, ("pass", None), ("pass", 1), ["pass"], "pass", "pay", ("pay",), ("pay", 1, 1), ("give", 9, 1, 77), ("claim", 4),
                ("back",), ("late",), ("late", 2, 4), ("take", 1), ("send", 1), ("", 1), ("pay", (1,)), ("pay", [1]), (("pay", 1),),
                (("pay",), 1), ({}, 1), (["pay"], 1), (None, 1), (True,), (0, 1), ("pay", "1"), ("claim", 4, 9), ("give", (9, 1, 77, 5)),
            ]:
                self.none(state_of(party), party, move, spoiled)

    def test_by_another_party(self):
        for party in [*ODD, 2, 1, "0"]:
            self.none(state_of(0), party, ("pass",), spoiled)
        for party in [*ODD, 2, 0, "1"]:
            self.none(state_of(1), party, ("pass",), spoiled)
        self.none(state_of(0), False, ("pass",))
        self.none(state_of(1), True, ("pass",))

    def test_what_the_digest_is_asked(self):
        asked = Asked()
        moved(state_of(0), 0, ("claim", 4, "open"), asked)
        self.none(state_of(0), 0, ("claim", 4, "shut"), asked)
        self.assertEqual(asked.texts, ["lock open", "lock shut"])
        for move in (("pay", 1), ("give", 8, 1, 77, 5), ("back", 4), ("late", 2), ("pass",)):
            moved(state_of(0), 0, move, spoiled)
        self.assertRaises(Spoiled, moved, state_of(0), 0, ("claim", 4, "open"), spoiled)

    def test_behind_many_moves_all_is_as_it_was(self):
        for seed in range(60):
            chance = random.Random(seed)
            state = ("state", 1, 0, chance.randint(0, 9), chance.randint(1, 9), ())
            for _ in range(40):
                mark = chance.randint(1, 9)
                move = chance.choice((
                    ("pay", chance.randint(1, 5)), ("give", mark, chance.randint(1, 4), chance.choice((OPEN, SHUT)), 5),
                    ("claim", mark, chance.choice(("open", "shut"))), ("back", mark), ("late", mark), ("pass",),
                ))
                try:
                    after = moved(state, state[2] % 2, move, digest)
                except NoMove:
                    continue
                self.assertTrue(is_state(after))
                self.assertEqual((worth(after), after[1], after[2]), (worth(state), 1, state[2] + 1))
                self.assertIs(set(after[5]) >= set(state[5]), move[0] in ("pay", "give", "pass"))
                state = after


if __name__ == "__main__":
    unittest.main()
