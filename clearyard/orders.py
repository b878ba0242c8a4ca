"""What an order is."""

from clearyard.words import is_amount, is_name, is_number, is_time

TOP_RANK = 9


def is_order(thing):
    """Whether thing is an order."""
    if not isinstance(thing, tuple) or len(thing) != 7:
        return False
    word, payer, payee, amount, rank, begin, until = thing
    if word != "order" or not is_name(payer) or not is_name(payee) or payer == payee:
        return False
    if not is_amount(amount) or not is_number(rank) or not 0 <= rank <= TOP_RANK:
        return False
    return is_time(begin) and is_time(until) and begin < until
