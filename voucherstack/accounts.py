"""What was bought, and what is paid back when wares are taken back."""

from voucherstack.bills import priced
from voucherstack.errors import NoPieces
from voucherstack.rules import Way, without_company
from voucherstack.till import Till
from voucherstack.wares import Basket, Line


# A list of a field is never changed, but another one put in its place, so that one that was read earlier stays.
class Account:
    def __init__(self, till, basket, hand, order):
        bill = priced(till, basket, hand, order)
        # Copies, so that the account goes on by the till, the basket and the hand as they are now.
        self.till = Till(till.parents, till.vouchers, till.rules, till.back)
        self.basket = Basket(basket.lines, basket.carriage, basket.member)
        self.hand = list(hand)
        self.first_prices = bill.prices
        self.order = list(order)
        self.fallen = []
        self.many = [line.many for line in basket.lines]
        self.paid = bill.total
        self.owed = 0

    def take_back(self, line, many):
        if not self.has_left(line, many):
            raise NoPieces()
        left = self.many[line] - many
        self.many = self.many[:line] + [left] + self.many[line + 1:]
        if self.till.back == "shares":
            return self.pay_back(self.paid_behind(line, left, many))
        due = self.due_again(self.what_stays())
        back = self.pay_back(max(self.paid - due, 0))
        self.owed = max(due - self.paid, 0)
        return back

    def has_left(self, line, many):
        return 0 <= line < len(self.many) and 1 <= many <= self.many[line]

    def pay_back(self, back):
        self.paid -= back
        return back

    def paid_behind(self, line, left, many):
        """What was paid at first for the many pieces of a line behind those that are left of it."""
        start = sum([each.many for each in self.basket.lines[:line]]) + left
        return sum(self.first_prices[start:start + many])

    def what_stays(self):
        lines = [Line(line.kind, line.price, left, line.special) for line, left in zip(self.basket.lines, self.many)]
        return Basket(lines, self.basket.carriage, self.basket.member)

    def due_again(self, stays):
        """The total of what stays by the vouchers that hold on it; the others fall."""
        way = self.go_through(stays)
        lonely = without_company(self.till.rules, self.order)
        if lonely is None:
            return way.standing.whole()
        self.fallen = self.fallen + [lonely] * self.order.count(lonely)
        self.order = [number for number in self.order if number != lonely]
        return self.due_again(stays)

    def go_through(self, stays):
        way = Way(self.till, stays, self.hand)
        falling = []
        for number in self.order:
            if way.word_for(number) is None:
                way = way.behind(number)
            else:
                falling.append(number)
        self.order = list(way.used)
        self.fallen = self.fallen + falling
        return way
