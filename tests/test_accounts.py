"""[19] Account, [20] and [21] taking back, [22] what follows, and what [1] and [2] say of them."""

import unittest

from helper import (
    PARENTS, Numbers, can_be_gone_on_with, made_searches, seen, share_no_list, some_basket, standing_by,
)
from voucherstack.accounts import Account
from voucherstack.bills import priced
from voucherstack.errors import LineError, NoPieces, NotLet, TillError
from voucherstack.rules import fault
from voucherstack.search import orders
from voucherstack.till import Till
from voucherstack.vouchers import Carriage, Cheapest, Marks, Off, Share
from voucherstack.wares import Basket, Line, Standing

BACKS = ("again", "shares")


def account_of(vouchers, order, rules=(), back="again", basket=None):
    till = Till(PARENTS, vouchers, list(rules), back)
    return Account(till, basket or some_basket(), [5] * len(vouchers), order)


def fields(account):
    return (account.order, account.fallen, account.many, account.paid, account.owed)


class ByWords:
    """The words of [19] to [21]."""

    def __init__(self, till, basket, hand, order):
        bill = priced(till, basket, hand, order)
        owners = Standing(basket).owners
        self.asked = (till, basket, hand)
        self.pieces = [[price for price, owner in zip(bill.prices, owners) if owner == line]
                       for line in range(len(basket.lines))]
        self.order, self.fallen = list(order), []
        self.many = [line.many for line in basket.lines]
        self.paid, self.owed = bill.total, 0
        self.fell_by_only = 0

    def take_back(self, line, many):
        self.many[line] -= many
        if self.asked[0].back == "shares":
            back = sum(self.pieces[line].pop() for piece in range(many))
            self.paid -= back
            return back
        due = self.due_again()
        back = self.paid - due if self.paid > due else 0
        self.paid -= back
        self.owed = due - self.paid if due > self.paid else 0
        return back

    def due_again(self):
        till, basket, hand = self.asked
        lines = [Line(line.kind, line.price, many, line.special) for line, many in zip(basket.lines, self.many)]
        stays = Basket(lines, basket.carriage, basket.member)
        while True:
            self.go_through(stays)
            broken = [rule for rule in till.rules
                      if rule[0] == "only" and rule[1] in self.order and rule[2] not in self.order]
            if not broken:
                return standing_by(till, stays, self.order).whole()
            for number in list(self.order):
                if number == broken[0][1]:
                    self.order.remove(number)
                    self.fallen.append(number)
                    self.fell_by_only += 1

    def go_through(self, stays):
        till, basket, hand = self.asked
        holding = []
        for number in self.order:
            if can_be_gone_on_with(till, stays, hand, holding + [number]):
                holding.append(number)
            else:
                self.fallen.append(number)
        self.order = holding


def made_accounts(many):
    """Tuples (till, basket, hand, order, takings), the order let by, the takings of all pieces, line by line mixed."""
    numbers = Numbers(many)
    cases = []
    for till, basket, hand in made_searches(many):
        told = orders(till, basket, hand)
        order = told[-1 - numbers.below(min(len(told), 4))]
        left = [line.many for line in basket.lines]
        takings = []
        while sum(left) > 0:
            line = numbers.one_of([number for number, pieces in enumerate(left) if pieces > 0])
            taken = 1 + numbers.below(left[line])
            left[line] -= taken
            takings.append((line, taken))
        rules = till.rules + only_rules(numbers, order)
        for back in BACKS:
            cases.append((Till(till.parents, till.vouchers, rules, back), basket, hand, order, takings))
    return cases


def only_rules(numbers, order):
    """Some rules of the order's own vouchers, so that it is let by as before."""
    return [("only", numbers.one_of(order), numbers.one_of(order)) for place in order]


class AtFirst(unittest.TestCase):
    def test_fields(self):
        for back in BACKS:
            account = account_of([Off(40), Share(100), Carriage(Marks(most=90))], [0, 1, 2], back=back)
            self.assertEqual(fields(account), ([0, 1, 2], [], [2, 1, 3, 0], 670, 0))

    def test_empty_order(self):
        for back in BACKS:
            self.assertEqual(fields(account_of([Off(40)], [], back=back)), ([], [], [2, 1, 3, 0], 830, 0))
            self.assertEqual(fields(account_of([], [], back=back, basket=Basket([], 7))), ([], [], [], 7, 0))

    def test_same_voucher_more_than_once(self):
        self.assertEqual(fields(account_of([Off(40), Off(1)], [1, 0, 1])), ([1, 0, 1], [], [2, 1, 3, 0], 788, 0))

    def test_same_line_twice(self):
        line = Line(1, 10, 2)
        self.assertEqual(fields(account_of([], [], basket=Basket([line, line]))), ([], [], [2, 2], 40, 0))

    def test_a_member(self):
        basket = Basket([Line(1, 100, 2, 60), Line(1, 50, 1)], 5, True)
        self.assertEqual(fields(account_of([], [], basket=basket)), ([], [], [2, 1], 175, 0))

    def test_by_name(self):
        account = Account(order=[0], hand=[1], basket=some_basket(), till=Till(PARENTS, [Off(9)], []))
        self.assertEqual(account.paid, 821)
        self.assertEqual(account.take_back(many=1, line=0), 100)

    def test_kinds(self):
        for back in BACKS:
            account = account_of([Off(9, Marks(needs=300))], [0], back=back)
            told = [account.take_back(0, 1)]
            for each in (account.order, account.fallen, account.many):
                self.assertIs(type(each), list)
            for number in told + account.order + account.fallen + account.many + [account.paid, account.owed]:
                self.assertIs(type(number), int)


class NotLetBy(unittest.TestCase):
    def test_each_word(self):
        vouchers = [
            Off(5), Off(5, Marks(once=True)), Off(5, Marks(member=True)), Off(5, Marks(kind=5)),
            Off(5, Marks(needs=336)), Carriage(),
        ]
        rules = [("never", 0, 5), ("ahead", 0, 1), ("only", 5, 1)]
        for back in BACKS:
            for order, place, word in (
                ([0] * 6, 5, "held"), ([1, 1], 1, "once"), ([0, 5], 1, "never"), ([1, 0], 1, "ahead"),
                ([2], 0, "member"), ([0, 3], 1, "nothing"), ([0, 4], 1, "needs"), ([5], 1, "only"),
            ):
                with self.assertRaises(NotLet) as caught:
                    account_of(vouchers, order, rules, back)
                self.assertEqual((caught.exception.place, caught.exception.word), (place, word))
                self.assertIs(type(caught.exception), NotLet)

    def test_its_classes(self):
        for family in (NotLet, TillError, ValueError):
            with self.assertRaises(family):
                account_of([Off(5)], [0] * 6)

    def test_as_fault_tells(self):
        for till, basket, hand in made_searches(60):
            for order in ([number] for number in range(len(till.vouchers))):
                due = fault(till, basket, hand, order)
                if due is not None:
                    with self.assertRaises(NotLet) as caught:
                        Account(till, basket, hand, order)
                    self.assertEqual((caught.exception.place, caught.exception.word), due)


class Again(unittest.TestCase):
    def test_nothing_falls(self):
        account = account_of([Off(40)], [0])
        self.assertEqual(account.take_back(2, 1), 30)
        self.assertEqual(fields(account), ([0], [], [2, 1, 2, 0], 760, 0))
        self.assertEqual(account.take_back(0, 2), 200)
        self.assertEqual(fields(account), ([0], [], [0, 1, 2, 0], 560, 0))

    def test_without_vouchers(self):
        account = account_of([], [])
        self.assertEqual([account.take_back(0, 1), account.take_back(2, 3), account.take_back(1, 1)], [100, 90, 50])
        self.assertEqual(fields(account), ([], [], [1, 0, 0, 0], 590, 0))

    def test_reckoned_anew_and_not_by_shares(self):
        account = account_of([Share(333)], [0])
        self.assertEqual(account.paid, 717)
        # Of 250 there go 83, of 150 there go 49.
        self.assertEqual([account.take_back(2, 3), account.take_back(0, 1)], [717 - 657, 657 - 591])
        account = account_of([Cheapest(2)], [0])
        self.assertEqual(account.paid, 670)
        # 100, 50, 30 are left: 50 is for nothing.
        self.assertEqual([account.take_back(0, 1), account.take_back(2, 2)], [20, 30])
        self.assertEqual(fields(account), ([0], [], [1, 1, 1, 0], 620, 0))

    def test_one_falls(self):
        account = account_of([Off(40, Marks(needs=300))], [0])
        self.assertEqual(account.take_back(0, 1), 60)
        self.assertEqual(fields(account), ([], [0], [1, 1, 3, 0], 730, 0))

    def test_needs_that_are_just_met(self):
        account = account_of([Off(40, Marks(needs=310))], [0])
        self.assertEqual(account.take_back(2, 1), 30)
        self.assertEqual(fields(account), ([0], [], [2, 1, 2, 0], 760, 0))
        account = account_of([Off(40, Marks(needs=311))], [0])
        self.assertEqual(account.take_back(2, 1), 0)
        self.assertEqual(fields(account), ([], [0], [2, 1, 2, 0], 790, 10))

    def test_paid_back_never_below_0_and_owed_above_0(self):
        account = account_of([Off(200, Marks(needs=340))], [0])
        self.assertEqual(account.paid, 630)
        told = []
        for line, many in ((2, 1), (0, 1), (0, 1), (1, 1), (2, 2)):
            told.append((account.take_back(line, many), account.paid, account.owed))
        self.assertEqual(told, [(0, 630, 170), (0, 630, 70), (30, 600, 0), (50, 550, 0), (60, 490, 0)])
        self.assertEqual((account.order, account.fallen, account.many), ([], [0], [0, 0, 0, 0]))

    def test_due_that_is_just_paid(self):
        account = account_of([Off(30, Marks(needs=340))], [0])
        self.assertEqual(account.take_back(2, 1), 0)
        self.assertEqual((account.paid, account.owed), (800, 0))

    def test_several_fall_in_one_going_through(self):
        vouchers = [Off(10, Marks(needs=300)), Off(20, Marks(kind=3)), Off(30)]
        account = account_of(vouchers, [0, 2, 1])
        self.assertEqual(account.paid, 770)
        self.assertEqual(account.take_back(1, 1), 20)
        self.assertEqual(fields(account), ([2], [0, 1], [2, 0, 3, 0], 750, 0))

    def test_one_behind_another_over_two_takings(self):
        vouchers = [Off(10, Marks(needs=280)), Off(20, Marks(kind=3)), Off(30)]
        account = account_of(vouchers, [0, 2, 1])
        self.assertEqual(account.take_back(1, 1), 30)
        self.assertEqual(fields(account), ([0, 2], [1], [2, 0, 3, 0], 740, 0))
        self.assertEqual(account.take_back(2, 1), 20)
        self.assertEqual(fields(account), ([2], [1, 0], [2, 0, 2, 0], 720, 0))

    def test_those_of_one_going_through_by_their_places(self):
        vouchers = [Off(10, Marks(needs=280)), Off(20, Marks(kind=3)), Off(30)]
        account = account_of(vouchers, [1, 2, 0])
        self.assertEqual(account.paid, 770)
        self.assertEqual(account.take_back(1, 1), 20)
        self.assertEqual(fields(account), ([2], [1, 0], [2, 0, 3, 0], 750, 0))
        vouchers = [Off(20, Marks(kind=3)), Off(10, Marks(needs=300)), Off(30)]
        account = account_of(vouchers, [1, 2, 0])
        self.assertEqual(account.take_back(1, 1), 20)
        self.assertEqual(fields(account), ([2], [1, 0], [2, 0, 3, 0], 750, 0))

    def test_behind_those_that_hold_so_far(self):
        # Without the first one, which falls, the second one finds enough.
        vouchers = [Off(50, Marks(kind=3)), Off(10, Marks(needs=290))]
        account = account_of(vouchers, [0, 1])
        self.assertEqual(account.paid, 770)
        self.assertEqual(account.take_back(1, 1), 0)
        self.assertEqual(fields(account), ([1], [0], [2, 0, 3, 0], 770, 0))

    def test_one_of_two_uses_falls(self):
        account = account_of([Off(40, Marks(needs=260))], [0, 0])
        self.assertEqual(account.paid, 750)
        self.assertEqual(account.take_back(2, 1), 30)
        self.assertEqual(fields(account), ([0, 0], [], [2, 1, 2, 0], 720, 0))
        self.assertEqual(account.take_back(2, 1), 0)
        self.assertEqual(fields(account), ([0], [0], [2, 1, 1, 0], 720, 10))

    def test_special_prices_of_a_member(self):
        basket = Basket([Line(1, 100, 2, 60), Line(1, 50, 1)], 5, True)
        account = account_of([Off(20, Marks(member=True))], [0], basket=basket)
        self.assertEqual(account.take_back(0, 1), 60)
        self.assertEqual(fields(account), ([0], [], [1, 1], 95, 0))

    def test_all_pieces_of_a_line_and_its_number_stays(self):
        account = account_of([Off(5)], [0])
        self.assertEqual(account.take_back(0, 2), 200)
        self.assertEqual(account.many, [0, 1, 3, 0])
        self.assertEqual(account.take_back(1, 1), 50)
        self.assertEqual(account.take_back(2, 2), 60)
        self.assertEqual(fields(account), ([0], [], [0, 0, 1, 0], 515, 0))

    def test_all_pieces_at_all(self):
        account = account_of([Off(40)], [0])
        self.assertEqual([account.take_back(line, many) for line, many in ((0, 2), (1, 1), (2, 3))], [200, 50, 50])
        self.assertEqual(fields(account), ([], [0], [0, 0, 0, 0], 490, 0))

    def test_free_carriage_falls_with_the_last_piece(self):
        account = account_of([Carriage()], [0], basket=Basket([Line(1, 10, 2)], 50))
        self.assertEqual(account.take_back(0, 1), 10)
        self.assertEqual(fields(account), ([0], [], [1], 10, 0))
        self.assertEqual(account.take_back(0, 1), 0)
        self.assertEqual(fields(account), ([], [0], [0], 10, 40))

    def test_same_line_twice(self):
        line = Line(1, 10, 2)
        account = account_of([Off(5)], [0], basket=Basket([line, line]))
        self.assertEqual(account.take_back(1, 2), 20)
        self.assertEqual((account.many, account.paid), ([2, 0], 15))
        self.assertEqual(account.take_back(0, 1), 10)


class AgainOnly(unittest.TestCase):
    def test_its_vouchers_fall_too(self):
        account = account_of([Off(10), Off(20, Marks(kind=3))], [0, 1], [("only", 0, 1)])
        self.assertEqual(account.paid, 800)
        self.assertEqual(account.take_back(1, 1), 20)
        self.assertEqual(fields(account), ([], [1, 0], [2, 0, 3, 0], 780, 0))

    def test_all_uses_fall(self):
        account = account_of([Off(10), Off(20, Marks(kind=3)), Off(1)], [0, 2, 1, 0, 2], [("only", 0, 1)])
        self.assertEqual(account.take_back(1, 1), 788 - 778)
        self.assertEqual(fields(account), ([2, 2], [1, 0, 0], [2, 0, 3, 0], 778, 0))

    def test_one_use_of_the_other_is_enough(self):
        account = account_of([Off(10), Off(20, Marks(needs=300))], [1, 0, 1], [("only", 0, 1)])
        self.assertEqual(account.take_back(2, 1), 10)
        self.assertEqual(fields(account), ([1, 0], [1], [2, 1, 2, 0], 770, 0))

    def test_first_rule_of_the_till(self):
        vouchers = [Off(1), Off(2), Off(3), Off(20, Marks(kind=3))]
        for rules, fallen in (
            ([("only", 0, 3), ("only", 1, 3)], [3, 0, 1]),
            ([("only", 1, 3), ("only", 0, 3)], [3, 1, 0]),
            ([("only", 0, 1), ("only", 1, 3)], [3, 1, 0]),
            ([("only", 0, 1), ("only", 2, 0), ("only", 1, 3)], [3, 1, 0, 2]),
            ([("never", 3, 3), ("only", 2, 3), ("ahead", 0, 0), ("only", 1, 3)], [3, 2, 1]),
            ([("only", 2, 2), ("only", 0, 3)], [3, 0]),
        ):
            account = account_of(vouchers, [0, 1, 2, 3], rules)
            account.take_back(1, 1)
            self.assertEqual(account.fallen, fallen, rules)
            self.assertEqual(account.order, [number for number in range(3) if number not in fallen])

    def test_those_that_still_hold_are_gone_through_anew(self):
        # With 0 the cheapest one cuts line 2, as line 0 is marked; without it line 1, which it so takes from 3.
        basket = Basket([Line(0, 100, 1), Line(1, 50, 1), Line(2, 40, 1), Line(3, 10, 1)])
        vouchers = [
            Off(1, Marks(kind=0, lone=True)), Off(1, Marks(kind=3)), Cheapest(2, Marks(lone=True)),
            Off(5, Marks(kind=1, lone=True)),
        ]
        till = Till([None, None, None, None], vouchers, [("only", 0, 1)])
        account = Account(till, basket, [1, 1, 1, 1], [0, 1, 2, 3])
        self.assertEqual(account.paid, 99 + 45 + 0 + 9)
        self.assertEqual(account.take_back(3, 1), 153 - 140)
        self.assertEqual(fields(account), ([2], [1, 0, 3], [1, 1, 1, 0], 140, 0))
        # 3 could be used now, but those that fell do not come back.
        self.assertEqual(account.take_back(0, 1), 90)
        self.assertEqual(fields(account), ([2], [1, 0, 3], [0, 1, 1, 0], 50, 0))

    def test_fallen_over_several_takings(self):
        vouchers = [Off(1), Off(2, Marks(kind=3)), Off(3, Marks(needs=200)), Off(4)]
        account = account_of(vouchers, [3, 2, 1, 0], [("only", 0, 2)])
        account.take_back(1, 1)
        self.assertEqual((account.order, account.fallen), ([3, 2, 0], [1]))
        account.take_back(0, 1)
        self.assertEqual((account.order, account.fallen), ([3], [1, 2, 0]))
        account.take_back(0, 1)
        self.assertEqual((account.order, account.fallen), ([3], [1, 2, 0]))
        account.take_back(2, 3)
        self.assertEqual((account.order, account.fallen), ([], [1, 2, 0, 3]))


class Shares(unittest.TestCase):
    def test_prices_of_the_first_bill(self):
        account = account_of([Off(10)], [0], back="shares")
        self.assertEqual(account.paid, 820)
        told = []
        for line, many in ((0, 1), (0, 1), (2, 2), (1, 1), (2, 1)):
            told.append((account.take_back(line, many), account.paid))
        self.assertEqual(told, [(97, 723), (98, 625), (58, 567), (48, 519), (29, 490)])
        self.assertEqual(fields(account), ([0], [], [0, 0, 0, 0], 490, 0))

    def test_last_pieces_of_those_that_are_left(self):
        account = account_of([Share(333, True)], [0], back="shares")
        self.assertEqual([account.take_back(2, 1), account.take_back(2, 2)], [20, 41])
        account = account_of([Cheapest(2)], [0], back="shares")
        told = [account.take_back(0, 1), account.take_back(2, 2), account.take_back(0, 1), account.take_back(2, 1)]
        self.assertEqual(told, [0, 30, 100, 0])
        self.assertEqual(fields(account), ([0], [], [0, 1, 0, 0], 540, 0))

    def test_no_voucher_falls_and_owed_stays_0(self):
        vouchers = [Off(200, Marks(needs=340)), Off(20, Marks(kind=3)), Off(1)]
        account = account_of(vouchers, [0, 1, 2], [("only", 2, 0)], "shares")
        left = priced(Till(PARENTS, vouchers, []), some_basket(), [1, 1, 1], [0, 1, 2]).prices
        self.assertEqual(account.take_back(1, 1), left[2])
        self.assertEqual(account.take_back(2, 3), sum(left[3:]))
        self.assertEqual(account.take_back(0, 2), sum(left[:2]))
        self.assertEqual(fields(account), ([0, 1, 2], [], [0, 0, 0, 0], 490, 0))

    def test_the_carriage_is_not_paid_back(self):
        account = account_of([Carriage(Marks(most=20))], [0], back="shares", basket=Basket([Line(1, 10, 2)], 50))
        self.assertEqual(account.take_back(0, 2), 20)
        self.assertEqual(fields(account), ([0], [], [0], 30, 0))

    def test_lines_of_no_piece_ahead(self):
        basket = Basket([Line(1, 9, 0), Line(1, 10, 2), Line(1, 9, 0), Line(1, 20, 1)])
        account = account_of([Off(20)], [0], back="shares", basket=basket)
        self.assertEqual([account.take_back(3, 1), account.take_back(1, 2)], [10, 10])

    def test_same_line_twice(self):
        line = Line(1, 10, 2)
        account = account_of([Off(3)], [0], back="shares", basket=Basket([line, line]))
        self.assertEqual([account.take_back(1, 1), account.take_back(0, 2), account.take_back(1, 1)], [9, 19, 9])
        self.assertEqual((account.many, account.paid), ([0, 0], 0))


class Both(unittest.TestCase):
    def test_words_of_the_promise(self):
        fell, fell_by_only, owed = 0, 0, 0
        for till, basket, hand, order, takings in made_accounts(400):
            account, expected = Account(till, basket, hand, order), ByWords(till, basket, hand, order)
            for line, many in takings:
                self.assertEqual(account.take_back(line, many), expected.take_back(line, many), seen(till))
                self.assertEqual(fields(account), fields(expected), seen((till, basket, hand, order)))
                owed += account.owed > 0
            fell += len(account.fallen) > 1
            fell_by_only += expected.fell_by_only > 0
        self.assertGreater(min(fell, fell_by_only, owed), 10)

    def test_all_paid_back_and_paid_are_the_first_total(self):
        for till, basket, hand, order, takings in made_accounts(200):
            account = Account(till, basket, hand, order)
            first, together = account.paid, 0
            self.assertEqual(first, priced(till, basket, hand, order).total)
            for line, many in takings:
                back = account.take_back(line, many)
                self.assertGreaterEqual(back, 0)
                self.assertGreaterEqual(account.owed, 0)
                together += back
                self.assertEqual(together + account.paid, first)
                self.assertEqual(sorted(account.order + account.fallen), sorted(order))

    def test_a_line_of_no_piece_stays_a_line(self):
        for back in BACKS:
            account = account_of([], [], back=back)
            account.take_back(0, 2)
            account.take_back(1, 1)
            self.assertEqual(account.many, [0, 0, 3, 0])
            self.assertEqual(account.take_back(2, 1), 30)


class NoSuchPieces(unittest.TestCase):
    def check_refused(self, account, line, many):
        before = seen(account)
        with self.assertRaises(NoPieces) as caught:
            account.take_back(line, many)
        self.assertIs(type(caught.exception), NoPieces)
        self.assertNotIsInstance(caught.exception, (NotLet, LineError))
        self.assertEqual(seen(account), before, (line, many))

    def test_at_first(self):
        for back in BACKS:
            account = account_of([Off(40, Marks(needs=300))], [0], back=back)
            for line, many in ((-1, 1), (-4, 1), (4, 1), (5, 1), (0, 0), (0, -1), (0, 3), (1, 2), (2, 4), (3, 1),
                               (3, 0), (-1, 0), (4, 0), (2, -3), (0, 10 ** 12), (10 ** 12, 1)):
                self.check_refused(account, line, many)

    def test_above_what_is_left(self):
        for back in BACKS:
            account = account_of([Off(40)], [0], back=back)
            account.take_back(2, 2)
            self.check_refused(account, 2, 2)
            self.check_refused(account, 2, 3)
            account.take_back(2, 1)
            self.check_refused(account, 2, 1)
            self.check_refused(account, 2, 0)
            account.take_back(0, 2)
            account.take_back(1, 1)
            for line in range(4):
                self.check_refused(account, line, 1)

    def test_without_lines(self):
        for back in BACKS:
            account = account_of([], [], back=back, basket=Basket([], 490))
            for line in (-1, 0, 1):
                self.check_refused(account, line, 1)

    def test_goes_on_behind_a_refusal(self):
        for back in BACKS:
            account = account_of([], [], back=back)
            self.check_refused(account, 1, 2)
            self.assertEqual(account.take_back(1, 1), 50)
            self.assertEqual((account.paid, account.owed), (780, 0))

    def test_its_classes(self):
        for family in (NoPieces, TillError, ValueError):
            with self.assertRaises(family):
                account_of([], []).take_back(0, 3)


class KeptApart(unittest.TestCase):
    def test_what_is_handed_in_stays(self):
        for till, basket, hand, order, takings in made_accounts(60):
            handed = (till, basket, hand, order)
            before = seen(handed)
            account = Account(*handed)
            for line, many in takings:
                account.take_back(line, many)
            self.assertEqual(seen(handed), before)

    def test_later_change_of_handed_lists(self):
        for back in BACKS:
            parents, vouchers, rules = list(PARENTS), [Off(10), Off(20, Marks(kind=3))], [("only", 0, 1)]
            lines, hand, order = some_basket().lines, [1, 1], [0, 1]
            account = Account(Till(parents, vouchers, rules, back), Basket(lines, 490), hand, order)
            other = account_of(list(vouchers), [0, 1], list(rules), back)
            parents.clear()
            vouchers[0] = Off(99)
            vouchers.pop()
            rules.clear()
            lines.reverse()
            hand.clear()
            order.reverse()
            order.append(1)
            for line, many in ((2, 1), (1, 1), (0, 2)):
                self.assertEqual(fields(account), fields(other))
                self.assertEqual(account.take_back(line, many), other.take_back(line, many))
            self.assertEqual(fields(account), fields(other))

    def test_as_the_till_and_the_basket_were(self):
        for back in BACKS:
            till, basket = Till(PARENTS, [Off(10), Off(20, Marks(kind=3))], [], back), some_basket()
            account, other = Account(till, basket, [1, 1], [0, 1]), account_of(till.vouchers, [0, 1], back=back)
            till.rules.append(("only", 0, 1))
            till.vouchers.reverse()
            till.back = "shares" if back == "again" else "again"
            basket.lines.pop()
            basket.carriage = 0
            for line, many in ((1, 1), (0, 1)):
                self.assertEqual(account.take_back(line, many), other.take_back(line, many))
                self.assertEqual(fields(account), fields(other))

    def test_two_accounts_stay_apart(self):
        for back in BACKS:
            till, basket, hand, order = Till(PARENTS, [Off(40)], [], back), some_basket(), [1], [0]
            one, other = Account(till, basket, hand, order), Account(till, basket, hand, order)
            self.assertTrue(share_no_list(till, basket, hand, order, one, other))
            one.take_back(0, 2)
            one.take_back(2, 3)
            one.take_back(1, 1)
            self.assertEqual(fields(other), ([0], [], [2, 1, 3, 0], 790, 0))
            self.assertTrue(share_no_list(till, basket, hand, order, one, other))

    def test_later_takings_change_nothing_that_was_told(self):
        for till, basket, hand, order, takings in made_accounts(100):
            account = Account(till, basket, hand, order)
            told = []
            for line, many in takings:
                told.append(((account.order, account.fallen, account.many), seen(fields(account)[:3])))
                account.take_back(line, many)
            for lists, before in told:
                self.assertEqual(seen(lists), before)

    def test_fields_share_no_list(self):
        for till, basket, hand, order, takings in made_accounts(60):
            account = Account(till, basket, hand, order)
            for line, many in takings:
                account.take_back(line, many)
                self.assertTrue(share_no_list(till, basket, hand, order, account))

    def test_what_was_told_may_be_handed_in_again(self):
        till = Till(PARENTS, [Off(10), Off(20)], [])
        account = Account(till, some_basket(), [1, 1], [1, 0])
        again = Account(till, some_basket(), [1, 1], account.order)
        self.assertTrue(share_no_list(till, account, again))
        self.assertEqual(fields(again), fields(account))


if __name__ == "__main__":
    unittest.main()
