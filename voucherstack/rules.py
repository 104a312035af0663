"""Whether the vouchers of an order can be used one behind the other."""

from voucherstack.cutting import after, hindrance
from voucherstack.wares import Standing


# The vouchers that were used so far and the standing that they have left are kept together, so that all orders with
# the same beginning can go on from it without reckoning it anew.
class Way:
    def __init__(self, till, basket, hand):
        self.till = till
        self.basket = basket
        self.hand = list(hand)
        self.used = []
        self.standing = Standing(basket)

    def word_for(self, number):
        """What is due for a voucher that comes next; None where it can be used."""
        word = word_of_order(self.till, self.hand, self.used, number)
        if word is not None:
            return word
        return hindrance(self.till.vouchers[number], self.till.parents, self.basket, self.standing)

    def behind(self, number):
        """A new way, by one more voucher."""
        further = Way(self.till, self.basket, self.hand)
        further.used = self.used + [number]
        further.standing = after(self.till.vouchers[number], self.till.parents, self.basket, self.standing)
        return further

    def followers(self):
        """The vouchers, by their numbers, by which the order can be gone on with."""
        return [number for number in range(len(self.till.vouchers)) if self.word_for(number) is None]

    def is_let_by(self):
        # Each voucher could be used where it stands, or the way would not have come here.
        return without_company(self.till.rules, self.used) is None


def fault(till, basket, hand, order):
    way = way_by(till, basket, hand, order)
    place = len(way.used)
    if place < len(order):
        return (place, way.word_for(order[place]))
    if not way.is_let_by():
        return (place, "only")
    return None


def way_by(till, basket, hand, order):
    """The way by an order, as far as its vouchers can be used."""
    way = Way(till, basket, hand)
    for number in order:
        if way.word_for(number) is not None:
            return way
        way = way.behind(number)
    return way


def word_of_order(till, hand, used, number):
    """What is due for a voucher behind the used ones, whatever the basket; None where nothing is."""
    if used.count(number) + 1 > hand[number]:
        return "held"
    if till.vouchers[number].marks.once and number in used:
        return "once"
    if breaks_never(till.rules, used, number):
        return "never"
    if breaks_ahead(till.rules, used, number):
        return "ahead"
    return None


def breaks_never(rules, used, number):
    for word, one, other in rules:
        if word == "never" and (one == number and other in used or other == number and one in used):
            return True
    return False


def breaks_ahead(rules, used, number):
    for word, one, other in rules:
        if word == "ahead" and one == number and other in used:
            return True
    return False


def without_company(rules, order):
    """The voucher, by its number, that the first broken "only" rule is about; None where none is broken."""
    for word, one, other in rules:
        if word == "only" and one in order and other not in order:
            return one
    return None
