"""[16] orders, and what [1] and [2] say of it."""

import itertools
import unittest

from helper import PARENTS, ahead_in_lists, made_searches, seen, share_no_list, some_basket
from voucherstack.bills import priced
from voucherstack.rules import fault
from voucherstack.search import orders
from voucherstack.till import Till
from voucherstack.vouchers import Carriage, Marks, Off
from voucherstack.wares import Basket, Line


def orders_of(vouchers, rules, hand, basket=None):
    return orders(Till(PARENTS, vouchers, rules), basket or some_basket(), hand)


def two():
    return [Off(5), Off(6)]


def let_by_by_words(till, basket, hand):
    """All lists of vouchers up to as many as are held that have no fault, sorted by the order of lists."""
    told = []
    for length in range(sum(hand) + 1):
        for order in itertools.product(range(len(till.vouchers)), repeat=length):
            if fault(till, basket, hand, list(order)) is None:
                place = len([one for one in told if ahead_in_lists(one, list(order))])
                told.insert(place, list(order))
    return told


class Ordinary(unittest.TestCase):
    def test_nothing_held(self):
        self.assertEqual(orders_of(two(), [], [0, 0]), [[]])
        self.assertEqual(orders_of([], [], []), [[]])
        self.assertEqual(orders(Till([], [], []), Basket([]), []), [[]])

    def test_one_of_one(self):
        self.assertEqual(orders_of(two(), [], [1, 0]), [[], [0]])
        self.assertEqual(orders_of(two(), [], [0, 1]), [[], [1]])

    def test_same_voucher_held_twice(self):
        self.assertEqual(orders_of([Off(5)], [], [2]), [[], [0], [0, 0]])

    def test_same_voucher_in_the_till_twice(self):
        voucher = Off(5)
        self.assertEqual(orders_of([voucher, voucher], [], [1, 1]), [[], [0], [0, 1], [1], [1, 0]])

    def test_the_order_of_lists(self):
        self.assertEqual(orders_of(two(), [], [2, 1]), [
            [], [0], [0, 0], [0, 0, 1], [0, 1], [0, 1, 0], [1], [1, 0], [1, 0, 0],
        ])
        self.assertEqual(orders_of([Off(5), Off(6), Off(7)], [], [1, 1, 1]), [
            [], [0], [0, 1], [0, 1, 2], [0, 2], [0, 2, 1], [1], [1, 0], [1, 0, 2], [1, 2], [1, 2, 0],
            [2], [2, 0], [2, 0, 1], [2, 1], [2, 1, 0],
        ])

    def test_5_held(self):
        self.assertEqual(orders_of([Off(5)], [], [5]), [[0] * many for many in range(6)])
        told = orders_of([Off(5)] * 8, [], [0, 1, 1, 0, 1, 1, 0, 1])
        self.assertEqual(len(told), 1 + 5 + 20 + 60 + 120 + 120)
        self.assertEqual((told[5], told[-1]), ([1, 2, 4, 5, 7], [7, 5, 4, 2, 1]))

    def test_somewhat_more_than_5_held(self):
        self.assertEqual(orders_of([Off(5)], [], [6]), [[0] * many for many in range(7)])


class LetBy(unittest.TestCase):
    def test_once(self):
        self.assertEqual(orders_of([Off(5, Marks(once=True))], [], [2]), [[], [0]])

    def test_never(self):
        self.assertEqual(orders_of(two(), [("never", 1, 0)], [1, 1]), [[], [0], [1]])
        self.assertEqual(orders_of(two(), [("never", 0, 0)], [2, 1]), [[], [0], [0, 1], [1], [1, 0]])

    def test_ahead(self):
        self.assertEqual(orders_of(two(), [("ahead", 0, 1)], [1, 1]), [[], [0], [0, 1], [1]])
        self.assertEqual(orders_of(two(), [("ahead", 1, 0)], [1, 1]), [[], [0], [1], [1, 0]])

    def test_only_lets_what_goes_on_by(self):
        self.assertEqual(orders_of(two(), [("only", 0, 1)], [1, 1]), [[], [0, 1], [1], [1, 0]])
        self.assertEqual(orders_of(two(), [("only", 0, 1)], [2, 1]),
                         [[], [0, 0, 1], [0, 1], [0, 1, 0], [1], [1, 0], [1, 0, 0]])
        self.assertEqual(orders_of(two(), [("only", 0, 1), ("only", 1, 0)], [1, 1]), [[], [0, 1], [1, 0]])

    def test_only_that_can_never_be_met(self):
        self.assertEqual(orders_of(two(), [("only", 0, 1)], [2, 0]), [[]])
        self.assertEqual(orders_of(two(), [("only", 0, 1), ("never", 0, 1)], [1, 1]), [[], [1]])

    def test_only_of_a_voucher_and_itself(self):
        self.assertEqual(orders_of([Off(5)], [("only", 0, 0)], [2]), [[], [0], [0, 0]])

    def test_hindrances(self):
        vouchers = [Off(5, Marks(member=True)), Off(6, Marks(kind=5)), Off(7, Marks(needs=334)), Off(8)]
        self.assertEqual(orders_of(vouchers, [], [1, 1, 1, 1]), [[], [2], [2, 3], [3]])

    def test_a_basket_without_pieces(self):
        self.assertEqual(orders_of([Off(5), Carriage()], [], [1, 1], Basket([Line(1, 5, 0)], 490)), [[]])

    def test_words_of_the_promise(self):
        many = {}
        for till, basket, hand in made_searches(250):
            told = orders(till, basket, hand)
            self.assertEqual(told, let_by_by_words(till, basket, hand), seen((till, basket, hand)))
            many[len(told)] = True
        self.assertGreater(len(many), 10)


class KeptApart(unittest.TestCase):
    def test_what_is_handed_in_stays(self):
        for handed in made_searches(60):
            before = seen(handed)
            one = orders(*handed)
            self.assertEqual(seen(handed), before)
            self.assertEqual(orders(*handed), one)

    def test_no_list_is_shared(self):
        for handed in made_searches(60):
            self.assertTrue(share_no_list(handed, orders(*handed), orders(*handed)))

    def test_change_of_what_was_told_changes_no_other(self):
        till = Till(PARENTS, two(), [])
        hand = [1, 1]
        one, other = orders(till, some_basket(), hand), orders(till, some_basket(), hand)
        for order in one:
            order.append(7)
        one.clear()
        hand[0] = 0
        self.assertEqual(other, [[], [0], [0, 1], [1], [1, 0]])
        self.assertEqual(orders(till, some_basket(), [1, 1]), other)

    def test_what_was_told_may_be_handed_in_again(self):
        till = Till(PARENTS, two(), [])
        totals = [priced(till, some_basket(), [1, 1], order).total for order in orders(till, some_basket(), [1, 1])]
        self.assertEqual(totals, [830, 825, 819, 824, 819])

    def test_by_name(self):
        self.assertEqual(orders(hand=[1], basket=some_basket(), till=Till(PARENTS, [Off(5)], [])), [[], [0]])

    def test_kinds(self):
        told = orders_of(two(), [], [1, 1])
        for each in [told] + told:
            self.assertIs(type(each), list)
        for number in [number for order in told for number in order]:
            self.assertIs(type(number), int)

    def test_back_does_not_matter(self):
        self.assertEqual(orders(Till(PARENTS, two(), [], "shares"), some_basket(), [1, 0]), [[], [0]])


if __name__ == "__main__":
    unittest.main()
