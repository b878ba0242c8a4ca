"""Lines: what is under way between the two parties of a pool; and a digest of which errors are told from refusals."""

from clearyard.errors import NoDeed
from clearyard.words import is_number

MOST_UNDER_WAY = 8


class Lines:
    """What is under way in one pool, to 0 and to 1."""

    def __init__(self, one, other):
        self._names = (one, other)
        self._lines = ([], [])

    def name_of(self, party):
        """The name of a party."""
        return self._names[party]

    def party_of(self, name):
        """The party of that name."""
        return self._names.index(name)

    def line(self, party):
        """All that is under way to a party."""
        return list(self._lines[party])

    def put(self, party, thing):
        """A thing more, last; what has no room is lost."""
        if len(self._lines[party]) < MOST_UNDER_WAY:
            self._lines[party].append(thing)

    def take(self, party, at):
        """The thing at a place, which leaves the line."""
        thing = self.thing(party, at)
        del self._lines[party][at]
        return thing

    def thing(self, party, at):
        """The thing at a place."""
        if not is_number(at) or not 0 <= at < len(self._lines[party]):
            raise NoDeed(at)
        return self._lines[party][at]

    def twin(self):
        """Lines that stand alike, and go on by themselves."""
        other = Lines(*self._names)
        for party in (0, 1):
            other._lines[party].extend(self.line(party))
        return other


class Asked:
    """A digest that tells of an error that it raised: such a one passes on, though it were of a refusal's class."""

    def __init__(self, digest):
        self._digest = digest
        self._asks = False

    def __call__(self, text):
        digest = self._digest
        self._asks = True
        told = digest(text)
        self._asks = False
        return told

    def start(self):
        """What was raised till now is told no more."""
        self._asks = False

    def raised(self):
        """Whether it was asked and told nothing, since the start."""
        return self._asks


def asked(digest):
    """A digest that tells of its errors, itself where it is one."""
    return digest if isinstance(digest, Asked) else Asked(digest)


def message_of(thing):
    """The thing, None where it isn't wholly of numbers, truths, texts, None and tuples of such."""
    left = [thing]
    while left:
        part = left.pop()
        if isinstance(part, tuple):
            left.extend(part)
        elif part is not None and not isinstance(part, (int, str)):
            return None
    return thing
