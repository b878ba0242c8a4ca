"""[132], [2] (b), (g): the books of a yard, and the judge who walks them again."""

import copy
import random
import unittest

from clearyard.errors import NoLog, NoState, YardError
from clearyard.judging import books_of, judged
from clearyard.ledger import ledger_of
from clearyard.yards import Yard
from some_yards import KEYS, LOCKS, Drawn, YardCase, closing_seals, drawn_deeds, entered, stands
from things import ODD, Asked, Spoiled, digest


def some_yard(told=digest):
    """A yard with some of all: rows of all words, two rounds of a kind, orders that wait, pools, messages."""
    yard = entered(told, names=("ann", "bob", "cid"), amount=20)
    for deed in (
        ("order", ("order", "ann", "bob", 30, 0, 0, 9)), ("order", ("order", "bob", "ann", 15, 0, 0, 9)), ("order", ("order", "cid", "ann", 25, 1, 0, 9)),
        ("round", "great"), ("round", "best"), ("take", "ann", 2), ("hold", "ann", "bob", 3, 9), ("claim", 1, 2), ("found", "ann", "cid", 1, 5, 5),
        ("wish", "cid", ("pay", 2, 2)), ("act", "ann"), ("arrive", 2, 1, 0), ("arrive", 2, 0, 0), ("act", "cid"), ("forge", 2, 1, ("x", (None, True))),
        ("order", ("order", "cid", "bob", 5, 2, 0, 9)), ("order", ("order", "bob", "cid", 5, 0, 0, 9)), ("round", "great"), ("tick", 1), ("round", "best"), ("show", "open"), ("tick", 2),
        ("round", "great"), ("show", "shut"),
    ):
        yard.do(deed)
    return yard


def changed(books, part, k, thing):
    """Books with another thing in the place k of a part."""
    row = books[part]
    return (*books[:part], (*row[:k], thing, *row[k + 1:]), *books[part + 1:])


def cut(books, part, k):
    return (*books[:part], books[part][:k], *books[part + 1:])


def others(thing):
    """Things of the same make with one part otherwise, at any depth; and of other kinds."""
    if isinstance(thing, (tuple, list)):
        for at, part in enumerate(thing):
            for other in others(part):
                yield thing.__class__([*thing[:at], other, *thing[at + 1:]])
            yield thing[:at] + thing[at + 1:]
        yield thing + thing.__class__([1])
        yield list(thing) if isinstance(thing, tuple) else tuple(thing)
    elif isinstance(thing, dict):
        for key, part in thing.items():
            for other in others(part):
                yield {**thing, key: other}
            yield {other: each for other, each in thing.items() if other != key}
            yield {**thing, None: 5, 3: part}
        yield {**thing, "zoe": 0}
        yield list(thing.items())
    elif thing.__class__ is int:
        yield from (thing + 1, thing - 1, str(thing), bool(thing) if thing in (0, 1) else None)
    elif thing.__class__ is str:
        yield from (thing + "a", thing[:-1], 5)
    yield None if thing is not None else 0


class Books(YardCase):

    def test_the_three_parts(self):
        yard = some_yard()
        before = stands(yard)
        for books in (books_of(yard), books_of(yard=yard)):
            self.assertEqual(repr(books), repr((tuple(yard.ledger().rows()), tuple(yard.clearing().rounds()), tuple(yard.deeds()))))
            books[1][0][2].append(5)
            books[1][0][4].clear()
        self.assertEqual(stands(yard), before)
        self.assertEqual(repr(books_of(Yard(digest))), repr(((), (), ())))

    def test_none_of_books_as_they_are(self):
        self.assertIsNone(judged(((), (), ()), digest))
        self.assertIsNone(judged(digest=digest, books=([], [], [])))
        self.assertIsNone(judged(books_of(some_yard()), digest))
        self.assertIsNone(judged(tuple(list(part) for part in books_of(some_yard())), digest))
        for seed in range(60):
            yard = drawn_deeds(entered(amount=100), Drawn(random.Random(seed)), seed * 3)
            before, books = stands(yard), books_of(yard)
            self.assertIsNone(judged(books, digest))
            self.assertEqual(stands(yard), before)
            self.assertEqual(repr(books), repr(books_of(yard)))


class Flaws(YardCase):

    def setUp(self):
        self.yard = some_yard()
        self.books = books_of(self.yard)

    def flaw(self, books, due):
        before = repr(books)
        self.assertEqual(repr(judged(books, digest)), repr(due))
        self.assertEqual(repr(books), before)

    def test_of_no_books(self):
        rows, rounds, deeds = self.books
        for thing in [
            *ODD, 0, list(self.books), self.books[:2], (*self.books, ()), (rows,), rows, (None, rounds, deeds), (rows, None, deeds), (rows, rounds, None),
            (rows, dict(enumerate(rounds)), deeds), (rows, "", deeds), ({}, (), ()), ((), {}, ()), ((), (), {}), ("", "", ""), (0, 0, 0),
        ]:
            self.flaw(thing, ("row", 0))

    def test_rows_otherwise(self):
        """The first row by which ledger_of can't lead, else the deed behind which the ledger has others."""
        rows, _, deeds = self.books
        rows_behind = self.rows_behind(deeds)
        seen = set()
        for k, row in enumerate(rows):
            for other in [*others(row), ("put", ((None, -21), ("cid", 21))), ("enter", (("zoe", 0),)), ("net", ())]:
                books = changed(self.books, 0, k, other)
                if other == row and repr(other) == repr(row):
                    continue
                try:
                    ledger_of(books[0])
                    due = ("deed", min(at for at, many in enumerate(rows_behind) if many > k))
                except NoLog as refusal:
                    due = ("row", refusal.row)
                self.flaw(books, due)
                seen.add(due[0])
        self.assertEqual(seen, {"row", "deed"})

    def rows_behind(self, deeds):
        """How many rows there are behind each deed."""
        yard, told = Yard(digest), []
        for deed in deeds:
            yard.do(deed)
            told.append(len(yard.ledger()))
        return told

    def test_rows_cut_and_beyond(self):
        rows, rounds, deeds = self.books
        rows_behind = self.rows_behind(deeds)
        for k in range(len(rows)):
            self.flaw(cut(self.books, 0, k), ("deed", min(at for at, many in enumerate(rows_behind) if many > k)))
        more = (("put", ((None, -5), ("ann", 5))), ("enter", (("zoe", 0),)))
        self.flaw(((*rows, *more), rounds, deeds), ("row", len(rows)))
        self.flaw(((*rows, ("enter", (("ann", 0),))), rounds, deeds), ("row", len(rows)))
        self.flaw(((*rows, *more, None), (), deeds), ("row", len(rows) + 2))
        self.flaw(((*rows, *more), (), deeds), ("row", len(rows)))
        self.flaw((rows, rounds, ()), ("row", 0))

    def test_deeds_cut(self):
        """Behind any deed: the first row beyond, else the first round that is too much, else nothing is to be seen."""
        rows, rounds, deeds = self.books
        seen = set()
        for k in range(len(deeds) + 1):
            yard = Yard(digest)
            yard.all_done(deeds[:k])
            there = len(yard.clearing().rounds())
            due = ("row", len(yard.ledger())) if len(yard.ledger()) < len(rows) else ("round", there) if there < len(rounds) else None
            self.flaw(cut(self.books, 2, k), due)
            seen.add(due and due[0])
        self.assertEqual(seen, {"row", "round", None})

    def test_deeds_otherwise(self):
        rows, rounds, deeds = self.books
        seen = set()
        for k, deed in enumerate(deeds):
            for other in [*others(deed), ("tick", 0), ("put", "zoe", 5), ("enter", "ann", "anns"), [], ("wish", "ann", ("pay", 9, 9))]:
                books = changed(self.books, 2, k, other)
                due = self.due(books)
                self.flaw(books, due)
                seen.add(due and (due[0], due[1] == k))
        self.assertTrue(seen.issuperset({("deed", True), ("deed", False), ("round", False)}), seen)

    def due(self, books):
        """The first flaw of books of which the rows lead, by the words."""
        rows, rounds, deeds = books
        yard = Yard(digest)
        for k, deed in enumerate(deeds):
            try:
                yard.do(deed)
            except YardError:
                return ("deed", k)
            if repr(tuple(yard.ledger().rows())) != repr(tuple(rows[:len(yard.ledger())])):
                return ("deed", k)
        if len(yard.ledger()) < len(rows):
            return ("row", len(yard.ledger()))
        led = yard.clearing().rounds()
        for k in range(max(len(led), len(rounds))):
            if k >= len(led) or k >= len(rounds) or repr(led[k][:5]) != repr(tuple(rounds[k] or ())[:5]):
                return ("round", k)
        return None

    def test_deeds_more(self):
        rows, rounds, deeds = self.books
        for more, due in ((("tick", 1), None), (("show", "shut"), None), (("put", "ann", 1), ("deed", len(deeds))), (("tick", 0), ("deed", len(deeds))),
                          (None, ("deed", len(deeds))), (("round", "great"), ("round", len(rounds)))):
            self.flaw((rows, rounds, (*deeds, more)), due)

    def test_rounds_otherwise(self):
        _, rounds, _ = self.books
        for k, (time, how, asked, done, free, paper) in enumerate(rounds):
            for at, part in enumerate((time, how, asked, done, free)):
                for other in others(part):
                    if repr(other) != repr(part):
                        row = rounds[k]
                        self.flaw(changed(self.books, 1, k, (*row[:at], other, *row[at + 1:])), ("round", k))
            for other in [*ODD, 0, list(rounds[k]), rounds[k][:5], (*rounds[k], 0), rounds[k][::-1]]:
                self.flaw(changed(self.books, 1, k, other), ("round", k))
            for other in [*ODD, 0, *others(paper)]:
                if repr(other) != repr(paper):
                    self.flaw(changed(self.books, 1, k, (time, how, asked, done, free, other)), ("round", k))

    def test_rounds_too_few_and_too_many(self):
        rows, rounds, deeds = self.books
        self.assertEqual(len(rounds), 5)
        for k in range(5):
            self.flaw(cut(self.books, 1, k), ("round", k))
            self.flaw((rows, (*rounds[:k], *rounds[k + 1:]), deeds), ("round", k))
            self.flaw((rows, (*rounds[:k], rounds[k], *rounds[k:]), deeds), ("round", k + 1))
        self.flaw((rows, (*rounds, rounds[4]), deeds), ("round", 5))
        self.flaw((rows, (*rounds, None), deeds), ("round", 5))
        self.flaw((rows, (*rounds[:1], None, *rounds[2:3]), deeds), ("round", 1))

    def test_another_paper_of_the_same_round(self):
        """Which of several papers stands there is open."""
        yard = entered(amount=5)
        for payer, payee in (("ann", "bob"), ("cid", "dan"), ("bob", "ann")):
            yard.do(("order", ("order", payer, payee, 20 if payer != "bob" else 1, 0, 0, 9)))
        yard.do(("round", "great"))
        books = books_of(yard)
        self.assertEqual(sorted(books[1][0][5]), [0, 1])
        for paper, due in (((0, 1), None), ((1, 0), None), ((0,), ("round", 0)), ((0, 1, 2), ("round", 0)), ([0, 1], ("round", 0)), ((0, True), ("round", 0))):
            self.assertEqual(judged(changed(books, 1, 0, (*books[1][0][:5], paper)), digest), due)
        yard = entered(amount=5)
        yard.do(("order", ("order", "ann", "bob", 3, 0, 0, 9)))
        yard.do(("order", ("order", "ann", "cid", 3, 0, 0, 9)))
        yard.do(("round", "best"))
        books = books_of(yard)
        less, short, best = ("less",), ("short", "ann"), ("best",)
        like = ("like",)
        self.assertEqual(books[1][0][3], [1])
        for paper, due in (
            (("split", ("split", short, best), ("split", like, less)), None), (("split", ("split", short, best), like), None), (("split", ("split", short, best), less), ("round", 0)),
            (("split", short, like), ("round", 0)), (best, ("round", 0)), (("split", ("split", short, like), like), ("round", 0)),
        ):
            self.assertEqual(judged(changed(books, 1, 0, (*books[1][0][:5], paper)), digest), due, paper)

    def test_the_order_of_free_is_none(self):
        rows, rounds, deeds = self.books
        time, how, asked, done, free, paper = rounds[0]
        self.assertIsNone(judged(changed(self.books, 1, 0, (time, how, asked, done, dict(reversed(list(free.items()))), paper)), digest))

    def test_rows_ahead_of_deeds_ahead_of_rounds(self):
        rows, rounds, deeds = self.books
        self.flaw(((*rows[:3], None, *rows[4:]), (None,), (None,)), ("row", 3))
        self.flaw((rows, (None,), (*deeds[:5], None, *deeds[6:])), ("deed", 5))
        self.flaw((rows, (None,), deeds), ("round", 0))
        self.flaw(((*rows, ("enter", (("zoe", 0),))), (None,), deeds), ("row", len(rows)))

    def test_deeds_of_other_words_for_the_same_rows(self):
        """A deed done otherwise that writes the same row is no flaw; one that writes another one is."""
        rows, rounds, deeds = self.books
        at = deeds.index(("act", "ann"))
        self.assertIsNone(judged((rows, rounds, (*deeds[:at], ("act", "bob"), ("act", "ann"), *deeds[at + 1:])), digest))
        at = deeds.index(("put", "bob", 20))
        self.flaw((rows, rounds, (*deeds[:at], ("put", "ann", 20), *deeds[at + 1:])), ("deed", at))

    def test_agreed_and_forged(self):
        yard = entered(names=("ann", "bob"))
        yard.do(("found", "ann", "bob", 5, 5, 5))
        yard.do(("forge", 1, 0, [1]))
        yard.do(("agree", 1, 3, 7, closing_seals(1, 3, 7, (KEYS["ann"], KEYS["bob"]))))
        books = books_of(yard)
        self.assertIsNone(judged(books, digest))
        self.assertIsNone(judged(changed(books, 2, 6, ("agree", 1, 3, 7, list(yard.deeds()[-1][4]))), digest))
        self.assertEqual(judged(books, lambda text: digest(text) // 2), ("deed", 6))

    def test_drawn_books_spoiled(self):
        """Whatever one thing is otherwise: the flaw by the words, of books of drawn deeds."""
        kinds = set()
        for seed in range(25):
            chance = random.Random(seed)
            books = books_of(drawn_deeds(entered(amount=60), Drawn(chance), 60))
            for _ in range(25):
                part = chance.choice([part for part in (0, 1, 2, 2) if books[part]])
                k = chance.randrange(len(books[part]))
                other = chance.choice(list(others(books[part][k])))
                spoiled = changed(copy.deepcopy(books), part, k, other)
                try:
                    ledger_of(spoiled[0])
                    due = self.due(spoiled)
                except NoLog as refusal:
                    due = ("row", refusal.row)
                told = judged(spoiled, digest)
                if part == 1 and due is None:
                    # It is the paper that was spoiled, or another one that shows as much.
                    self.assertIn(told, (None, ("round", k)))
                else:
                    self.assertEqual(told, due, (part, k, other))
                kinds.add((part, told and told[0]))
        self.assertTrue(kinds.issuperset({(0, "row"), (1, "round"), (2, "deed"), (2, None)}), kinds)


class Digests(YardCase):

    def test_errors_pass_on(self):
        asked = Asked()
        books = books_of(some_yard(asked))
        many, told = self.spoiled_at_each(asked, lambda: books, judged, books, asked)
        self.assertGreater(many, 3)
        self.assertIsNone(told)

    def test_errors_that_are_refusals_by_class_alone(self):
        yard = entered(names=("ann", "bob"))
        for deed in (("found", "ann", "bob", 5, 5, 5), ("wish", "ann", ("send", 1, 5, LOCKS[0], 9)), ("act", "ann"), ("leave", 1)):
            yard.do(deed)
        for error in (NoState(), NoLog(3), YardError(), Spoiled()):
            def told(text):
                raise error
            with self.assertRaises(error.__class__) as caught:
                judged(books_of(yard), told)
            self.assertIs(caught.exception, error)
            self.assertEqual(judged((yard.ledger().rows(), [], [None]), told), ("deed", 0))
            rows, rounds, deeds = books_of(yard)
            self.assertEqual(judged((rows, rounds, (*deeds[:4], ("put", "zoe", 5))), told), ("deed", 4))


if __name__ == "__main__":
    unittest.main()
