"""Sum trees: a root by which each account is shown to be within the whole."""

from clearyard.errors import NoName, NoTree
from clearyard.words import is_digest, is_name, is_pair, is_whole

MOST_ACCOUNTS = 64
MOST_OF_ONE = 10 ** 12


class Tree:
    """The sum tree of accounts, from the leaves up to the root."""

    def __init__(self, accounts, digest):
        if not _are_accounts(accounts):
            raise NoTree()
        self._names = sorted(accounts)
        self._rows = [[_leaf(name, accounts[name], digest) for name in self._names]]
        while len(self._rows[-1]) > 1:
            self._rows.append(_row_above(self._rows[-1], digest))

    def root(self):
        """The last pair: a mark, and the sum of all."""
        return self._rows[-1][0]

    def share(self, name):
        """What is beside, from name's leaf up."""
        if name not in self._names:
            raise NoName(name)
        at = self._names.index(name)
        told = []
        for row in self._rows[:-1]:
            if at % 2 == 1:
                told.append(("left", *row[at - 1]))
            elif at + 1 < len(row):
                told.append(("right", *row[at + 1]))
            at = at // 2
        return tuple(told)


def shows(root, name, number, share, digest):
    """Whether name with number is within the whole of a root, by its share."""
    if not _is_sum(root) or not is_name(name) or not is_whole(number):
        return False
    if not isinstance(share, tuple) or not all([_is_beside(part) for part in share]):
        return False
    pair = _leaf(name, number, digest)
    for side, *beside in share:
        pair = _node(beside, pair, digest) if side == "left" else _node(pair, beside, digest)
    return pair == root


def _are_accounts(thing):
    if not isinstance(thing, dict) or not 1 <= len(thing) <= MOST_ACCOUNTS:
        return False
    return all([is_name(name) and is_whole(number) and number <= MOST_OF_ONE for name, number in thing.items()])


def _is_sum(thing):
    """Whether thing is a mark with a number."""
    return is_pair(thing) and is_digest(thing[0]) and is_whole(thing[1])


def _is_beside(thing):
    if not isinstance(thing, tuple) or len(thing) != 3:
        return False
    return thing[0] in ("left", "right") and _is_sum(thing[1:])


def _leaf(name, number, digest):
    return digest(f"leaf {name} {number}"), number


def _node(left, right, digest):
    """The pair above two."""
    return digest(f"node {left[0]} {left[1]} {right[0]} {right[1]}"), left[1] + right[1]


def _row_above(row, digest):
    """Pairs of pairs from the left; the last one, if it is alone, stays as it is."""
    above = [_node(row[at], row[at + 1], digest) for at in range(0, len(row) - 1, 2)]
    return above + row[len(row) // 2 * 2:]
