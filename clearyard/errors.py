"""The refusals: each is a class of its own straight under YardError."""


class YardError(ValueError):
    """What all refusals are under."""

    def word(self):
        """Its class in small letters."""
        return self.__class__.__name__.lower()


class NoName(YardError):
    """Of what is no name, or of one that can't stand there."""

    def __init__(self, name):
        self.name = name


class NoAmount(YardError):
    """Of what is no amount, or of parts that don't fit."""


class Short(YardError):
    """Of a name that has less free than is asked of it."""

    def __init__(self, name):
        self.name = name


class NoPot(YardError):
    """Of a number by which no pot is there."""

    def __init__(self, number):
        self.number = number


class NoTime(YardError):
    """Of what is no time, or of one that can't be then."""

    def __init__(self, time):
        self.time = time


class NoOrder(YardError):
    """Of a number by which no order is there."""

    def __init__(self, number):
        self.number = number


class NoOrders(YardError):
    """Of what is no order, or no list of orders or of their numbers."""


class NoHow(YardError):
    """Of what is no way to reckon a round."""


class NoState(YardError):
    """Of what is no state, or of one that can't stand there."""


class NoSeal(YardError):
    """Of a key, a secret or a seal that is none, or is wrong."""


class NoPool(YardError):
    """Of a number by which no pool is there."""

    def __init__(self, number):
        self.number = number


class Done(YardError):
    """Of a pool for which it is too late."""

    def __init__(self, number):
        self.number = number


class NoMove(YardError):
    """Of what is no move, or of one that can't be made."""


class NotNow(YardError):
    """Of what can't be done at this time."""


class NoWay(YardError):
    """Of edges, names or amounts between which no way can be asked for."""


class NoTree(YardError):
    """Of accounts of which no sum tree can be."""


class NoDeed(YardError):
    """Of a deed that is none, or is refused."""

    def __init__(self, at):
        self.at = at


class NoLog(YardError):
    """Of the first row that can't be."""

    def __init__(self, row):
        self.row = row
