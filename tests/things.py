"""What several tests share: things that aren't as told, and how refusals are looked at."""

import copy
import hashlib
import unittest

MOST = 10 ** 9
DIGEST = 10 ** 30

# Things of all the kinds that may be handed in, none of them of much use anywhere.
ODD = [
    True, False, None, "", " ", "ann ", "Ann", "ann1", "a-b", "a\nb", "order", "nobody", "toolongname",
    [], [1], ["ann"], [[]], [None], [True], [("ann", 5)], [["ann", 5]], [("ann",)],
    (), (1,), ("ann",), ("ann", 5), ("ann", 5, 5), (None,), ((),), (True, False),
    {}, {"ann": 5}, {1: 2}, {None: []}, -1, -5, -10 ** 39,
]

NOT_NUMBERS = [thing for thing in ODD if isinstance(thing, bool) or not isinstance(thing, int)] + ["1", "5"]
NOT_COUNTS = NOT_NUMBERS + [0, -1, -5, -10 ** 39]
NOT_AMOUNTS = NOT_COUNTS + [MOST + 1, 10 ** 39]
NOT_TIMES = NOT_NUMBERS + [-1, -5, -10 ** 39]
NOT_NAMES = [
    True, False, None, 0, 1, 5, -1, 10 ** 39, "", " ", "ann ", " ann", "Ann", "ANN", "ann1", "1", "a-b", "a\nb", "ann\n",
    "abcdefghi", "toolongname", "a" * 8000, [], ["ann"], ["a", "b"], (), ("ann",), ("a", "b"), {}, {"ann": 5}, {"a": 1},
]
NOT_LISTS = [True, False, None, 0, 1, 5, -1, "", "ann", "ab", {}, {"ann": 5}, {1: 2}]


NOT_DIGESTS = NOT_TIMES + [DIGEST + 1, 10 ** 39]
NOT_SECRETS = [thing for thing in NOT_NAMES if thing not in ("abcdefghi", "toolongname")] + ["z" * 21]


def digest(text):
    """A digest of texts, of nothing else."""
    if text.__class__ is not str:
        raise AssertionError(f"no text: {text!r}")
    return int(hashlib.sha256(text.encode()).hexdigest(), 16) % (DIGEST + 1)


class Spoiled(Exception):
    """What a spoiled digest raises: none of the program's own."""


class Asked:
    """A digest that keeps what it is asked, and raises an error when it has been asked so often."""

    def __init__(self, told=digest):
        self.told, self.texts, self.left = told, [], None

    def __call__(self, text):
        if self.left is not None:
            if self.left == 0:
                raise Spoiled()
            self.left -= 1
        self.texts.append(text)
        return self.told(text)

    def __deepcopy__(self, memo):
        return self


NAMES = ("dan", "ann", "cid", "bob", "z", "abcdefgh")


def some_deed(chance, ledger):
    """The word and parts of some deed, now and then one that is refused."""
    word = chance.choice(("enter", "put", "put", "take", "move", "lock", "lock", "share", "share", "net"))
    name, other = chance.sample(NAMES, 2)
    amount = chance.choice((1, 2, 3, 5, 8, 20, MOST))
    some = [(each, chance.randint(1, 6)) for each in chance.sample(NAMES, chance.randint(1, 4))]
    if word == "enter":
        return word, (name,)
    if word in ("put", "take"):
        return word, (name, amount)
    if word == "move":
        return word, (name, other, amount)
    if word == "lock":
        return word, (some,)
    if word == "share":
        pots = ledger.pots()
        number = chance.choice([*pots, 1])
        return word, (number, chance.choice((some, [(name, pots.get(number, 1))])))
    noughts = [(each, 0) for each in ledger.names() if each not in (name, other)]
    return word, ([(name, amount), (other, -amount), *noughts],)


class Case(unittest.TestCase):
    """A test case that knows how to look at refusals, and at errors of a digest."""

    def spoiled_at_each(self, asked, stand, call, *parts, **named):
        """How often asked was asked till the call was done: its error at each place passes on, and changes nothing."""
        before = repr(stand())
        for many in range(100):
            asked.left = many
            try:
                told = call(*parts, **named)
            except Spoiled:
                asked.left = None
                self.assertEqual(repr(stand()), before)
            else:
                asked.left = None
                return many, told
        self.fail("asked without an end")

    def refused(self, refusal, fields, call, *parts, **named):
        """That call is refused by just this class, with just these fields, and what is handed in stays."""
        before = copy.deepcopy((parts, named))
        with self.assertRaises(refusal) as caught:
            call(*parts, **named)
        self.assertEqual(caught.exception.__class__, refusal)
        self.assertEqual(repr(vars(caught.exception)), repr(fields))
        self.assertEqual(repr((parts, named)), repr(before))
