"""[120], [2] (f): sum trees, shares, and the judge of them."""

import random
import unittest

from clearyard.errors import NoName, NoTree
from clearyard.trees import Tree, shows
from things import DIGEST, NOT_DIGESTS, NOT_NAMES, NOT_TIMES, ODD, Asked, Case, Spoiled, digest

MOST_OF_ONE = 10 ** 12
NAMES = ["n" + one + other for one in "abcdefgh" for other in "abcdefgh"]


def some_accounts(many, chance=None):
    names = list(NAMES[:many])
    if chance is not None:
        chance.shuffle(names)
    return {name: 0 if chance is None else chance.choice((0, 1, 7, MOST_OF_ONE)) for name in names}


def tree_by_words(accounts, digest):
    """The root and all shares, by the words of the point: each row a list of (pair, the names below it)."""
    row = [((digest(f"leaf {name} {accounts[name]}"), accounts[name]), [name]) for name in sorted(accounts)]
    shares = {name: () for name in accounts}
    while len(row) > 1:
        above = []
        while len(row) >= 2:
            (left, ones), (right, others) = row.pop(0), row.pop(0)
            mark = digest("node " + str(left[0]) + " " + str(left[1]) + " " + str(right[0]) + " " + str(right[1]))
            for name in ones:
                shares[name] += (("right", *right),)
            for name in others:
                shares[name] += (("left", *left),)
            above.append(((mark, left[1] + right[1]), ones + others))
        row = above + row
    return row[0][0], shares


class Trees(Case):

    def test_one_two_and_three(self):
        leaf = {name: digest(f"leaf {name} {number}") for name, number in (("ann", 5), ("bob", 0), ("cid", 9))}
        tree = Tree({"ann": 5}, digest)
        self.assertEqual((tree.root(), tree.share("ann")), ((leaf["ann"], 5), ()))
        tree = Tree({"bob": 0, "ann": 5}, digest)
        node = digest(f"node {leaf['ann']} 5 {leaf['bob']} 0")
        self.assertEqual(tree.root(), (node, 5))
        self.assertEqual(repr(tree.share("ann")), repr((("right", leaf["bob"], 0),)))
        self.assertEqual(repr(tree.share(name="bob")), repr((("left", leaf["ann"], 5),)))
        tree = Tree(digest=digest, accounts={"cid": 9, "bob": 0, "ann": 5})
        self.assertEqual(repr(tree.root()), repr((digest(f"node {node} 5 {leaf['cid']} 9"), 14)))
        self.assertEqual(tree.share("ann"), (("right", leaf["bob"], 0), ("right", leaf["cid"], 9)))
        self.assertEqual(tree.share("cid"), (("left", node, 5),))

    def test_the_texts(self):
        asked = Asked(lambda text: len(text))
        Tree({"cid": 9, "bob": 0, "ann": 10 ** 12}, asked)
        self.assertEqual(asked.texts, ["leaf ann 1000000000000", "leaf bob 0", "leaf cid 9", "node 22 1000000000000 10 0", "node 26 1000000000000 10 9"])

    def test_of_all_sizes_against_the_words(self):
        for many in range(1, 65):
            accounts = some_accounts(many, random.Random(many))
            tree = Tree(accounts, digest)
            root, shares = tree_by_words(accounts, digest)
            self.assertEqual(repr(tree.root()), repr(root))
            self.assertEqual(root[1], sum(accounts.values()))
            for name, number in accounts.items():
                self.assertEqual(repr(tree.share(name)), repr(shares[name]))
                self.assertIs(shows(tree.root(), name, number, tree.share(name), digest), True)
        self.assertEqual([len(Tree(some_accounts(many), digest).share(NAMES[many - 1])) for many in (1, 2, 3, 5, 9, 63, 64)], [0, 1, 1, 1, 1, 5, 6])

    def test_no_tree(self):
        for thing in [*ODD, 0, [("ann", 5)], (("ann", 5),), "ann"]:
            if thing != {"ann": 5} or thing.__class__ is not dict:
                self.refused(NoTree, {}, Tree, thing, digest)
        for name in NOT_NAMES:
            if name.__class__ not in (list, dict):
                self.refused(NoTree, {}, Tree, {name: 5}, digest)
                self.refused(NoTree, {}, Tree, {"ann": 5, name: 5}, digest)
        for number in [*NOT_TIMES, MOST_OF_ONE + 1, 10 ** 39]:
            self.refused(NoTree, {}, Tree, {"ann": number}, digest)
            self.refused(NoTree, {}, Tree, {"ann": 5, "bob": number}, digest)
        for number in (0, MOST_OF_ONE):
            self.assertEqual(Tree({"ann": number}, digest).root()[1], number)
        accounts = some_accounts(64)
        Tree(accounts, digest)
        self.refused(NoTree, {}, Tree, {**accounts, "zoe": 0}, digest)
        self.refused(NoTree, {}, Tree, {}, digest)

    def test_no_name(self):
        tree = Tree(some_accounts(5), digest)
        for name in [*NOT_NAMES, "nobody", "zoe", NAMES[5]]:
            self.refused(NoName, {"name": name}, tree.share, name)

    def test_accounts_changed_behind(self):
        accounts = {"ann": 5, "bob": 6}
        tree = Tree(accounts, digest)
        before = tree.root(), tree.share("ann")
        accounts["ann"] = 9
        accounts["cid"] = 1
        del accounts["bob"]
        self.assertEqual((tree.root(), tree.share("ann")), before)
        self.refused(NoName, {"name": "cid"}, tree.share, "cid")
        self.assertEqual(accounts, {"ann": 9, "cid": 1})

    def test_errors_of_the_digest(self):
        asked = Asked()
        accounts = some_accounts(5)
        self.assertEqual(self.spoiled_at_each(asked, lambda: accounts, Tree, accounts, asked)[0], 9)
        tree = Tree(accounts, asked)
        many, told = self.spoiled_at_each(asked, tree.root, shows, tree.root(), "naa", 0, tree.share("naa"), asked)
        self.assertEqual((many, told), (4, True))
        asked.left = 0
        self.assertEqual((tree.root()[1], len(tree.share("naa"))), (0, 3))
        with self.assertRaises(Spoiled):
            shows(tree.root(), "naa", 0, tree.share("naa"), asked)


class Shows(Case):

    def setUp(self):
        self.accounts = {"ann": 5, "bob": 0, "cid": 9, "dan": 1, "eve": 2}
        self.tree = Tree(self.accounts, digest)

    def not_shown(self, root, name, number, share):
        asked = Asked()
        self.assertIs(shows(root, name, number, share, asked), False, (root, name, number, share))

    def test_by_name(self):
        self.assertIs(shows(digest=digest, share=self.tree.share("ann"), number=5, name="ann", root=self.tree.root()), True)

    def test_another_root(self):
        mark, number = self.tree.root()
        for root in [
            *ODD, 0, [mark, number], (mark,), (mark, number, 0), (number, mark), (mark + 1, number), (mark, number + 1), (mark, number - 1), (str(mark), number),
            (mark, str(number)), (mark, None), Tree({"ann": 5}, digest).root(), Tree({**self.accounts, "bob": 1}, digest).root(), mark, (mark, -number),
        ]:
            for name in self.accounts:
                self.not_shown(root, name, self.accounts[name], self.tree.share(name))

    def test_another_name(self):
        for name in self.accounts:
            for other in [*NOT_NAMES, "zoe", *self.accounts]:
                if other != name:
                    self.not_shown(self.tree.root(), other, self.accounts[name], self.tree.share(name))

    def test_another_number(self):
        for name in self.accounts:
            for number in [*NOT_TIMES, 0, 1, 2, 4, 5, 6, 9, 10, MOST_OF_ONE, 10 ** 39, str(self.accounts[name])]:
                if repr(number) != repr(self.accounts[name]):
                    self.not_shown(self.tree.root(), name, number, self.tree.share(name))

    def test_another_share(self):
        for name, number in self.accounts.items():
            share = self.tree.share(name)
            others = [*ODD, 0, list(share), (*share, ("left", 0, 0)), share[:-1], share[1:], *[self.tree.share(each) for each in self.accounts]]
            for at, (side, mark, beside) in enumerate(share):
                parts = [(other, mark, beside) for other in ("left", "right", "", "Left", "l", None, 0, True, ["left"], ("left",)) if other != side]
                parts += [(side, other, beside) for other in [*NOT_DIGESTS, mark + 1, mark - 1, str(mark)]]
                parts += [(side, mark, other) for other in [*NOT_TIMES, beside + 1, str(beside)] if repr(other) != repr(beside)]
                parts += [[side, mark, beside], (side, mark), (side, mark, beside, 0), None, (mark, side, beside), (side, (mark, beside))]
                others += [(*share[:at], part, *share[at + 1:]) for part in parts]
            for other in others:
                if repr(other) != repr(share):
                    self.not_shown(self.tree.root(), name, number, other)

    def test_numbers_below_nought_that_would_lead_there(self):
        """A number more for the one is none less for what is beside: below nought none is shown."""
        leaf, beside = digest("leaf ann 7"), digest("leaf bob -2")
        root = (digest(f"node {leaf} 7 {beside} -2"), 5)
        self.not_shown(root, "ann", 7, (("right", beside, -2),))
        self.not_shown((digest("leaf ann -5"), -5), "ann", -5, ())
        self.not_shown((digest("leaf Ann 5"), 5), "Ann", 5, ())

    def test_truths_that_would_lead_there(self):
        def told(text):
            return 1
        self.assertIs(shows((1, 1), "ann", 1, (), told), True)
        self.assertIs(shows((1, 2), "ann", 1, (("left", 1, 1),), told), True)
        for parts in (((True, 1), "ann", 1, ()), ((1, True), "ann", 1, ()), ((1, 1), "ann", True, ()), ((1, 2), "ann", 1, (("left", True, 1),)), ((1, 2), "ann", 1, (("left", 1, True),))):
            self.assertIs(shows(*parts, told), False)

    def test_marks_at_their_bounds(self):
        for mark in (0, DIGEST):
            def told(text):
                return mark
            self.assertIs(shows((mark, 3), "ann", 1, (("left", mark, 2),), told), True)
            tree = Tree({"ann": 1, "bob": 2}, told)
            self.assertEqual((tree.root(), tree.share("ann")), ((mark, 3), (("right", mark, 2),)))

    def test_numbers_beyond_those_of_a_tree(self):
        number = 10 ** 38
        self.assertIs(shows((digest(f"leaf ann {number}"), number), "ann", number, (), digest), True)

    def test_nothing_but_texts_is_asked(self):
        for parts in ((None, "ann", 5, ()), (self.tree.root(), 5, 5, ()), (self.tree.root(), "ann", "5", ()), (self.tree.root(), "ann", 5, None)):
            asked = Asked()
            self.assertIs(shows(*parts, asked), False)
            self.assertEqual(asked.texts, [])

    def test_no_two_numbers_of_a_name_by_one_root(self):
        """By whatever parts of the tree: only what it has is shown."""
        for seed in range(200):
            chance = random.Random(seed)
            accounts = {name: chance.randint(0, 3) for name in NAMES[:chance.randint(1, 9)]}
            tree = Tree(accounts, digest)
            parts = [part for name in accounts for part in tree.share(name)]
            for _ in range(30):
                share = tuple(chance.choice(parts) for _ in range(chance.randint(0, 4))) if parts else ()
                name, number = chance.choice(list(accounts)), chance.randint(0, 6)
                if shows(tree.root(), name, number, share, digest):
                    self.assertEqual((number, share), (accounts[name], tree.share(name)))


if __name__ == "__main__":
    unittest.main()
