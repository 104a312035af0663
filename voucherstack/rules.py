"""Whether the vouchers of an order can be used one behind the other."""

from voucherstack.cutting import after, hindrance
from voucherstack.wares import Standing


def fault(till, basket, hand, order):
    standing = Standing(basket)
    for place, number in enumerate(order):
        voucher = till.vouchers[number]
        word = word_of_order(till, hand, order[:place], number)
        if word is None:
            word = hindrance(voucher, till.parents, basket, standing)
        if word is not None:
            return (place, word)
        standing = after(voucher, till.parents, basket, standing)
    if lacks_company(till.rules, order):
        return (len(order), "only")
    return None


def word_of_order(till, hand, used, number):
    """What is due for a voucher behind the used ones, whatever the basket; None where nothing is."""
    if used.count(number) + 1 > hand[number]:
        return "held"
    if till.vouchers[number].marks.once and number in used:
        return "once"
    if breaks_never(till.rules, used, number):
        return "never"
    if breaks_ahead(till.rules, used, number):
        return "ahead"
    return None


def breaks_never(rules, used, number):
    for word, one, other in rules:
        if word == "never" and (one == number and other in used or other == number and one in used):
            return True
    return False


def breaks_ahead(rules, used, number):
    for word, one, other in rules:
        if word == "ahead" and one == number and other in used:
            return True
    return False


def lacks_company(rules, order):
    for word, one, other in rules:
        if word == "only" and one in order and other not in order:
            return True
    return False
