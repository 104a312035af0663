"""[14] priced and Bill, [15] line_cuts and line_totals, and what [1] and [2] say of them."""

import itertools
import unittest

from helper import PARENTS, behind, made_searches, seen, share_no_list, some_basket, standing_by
from voucherstack.bills import Bill, line_cuts, line_totals, priced
from voucherstack.cutting import cuts
from voucherstack.errors import LineError, NoPieces, NotLet, TillError
from voucherstack.rules import fault
from voucherstack.till import Till
from voucherstack.vouchers import Bundle, Carriage, Cheapest, Marks, Off, Share
from voucherstack.wares import Basket, Line, Standing

PRICES = [100, 100, 50, 30, 30, 30]
MOST = 10 ** 12


def bill_of(vouchers, order, basket=None, rules=()):
    till = Till(PARENTS, vouchers, list(rules))
    return priced(till, basket or some_basket(), [5] * len(vouchers), order)


def bill_fields(bill):
    return (bill.order, bill.steps, bill.prices, bill.carriage, bill.total)


def three_vouchers():
    return [Off(40), Share(100), Carriage(Marks(most=90))]


def let_by_cases(many):
    """Tuples (till, basket, hand, order) of orders that are let by."""
    for till, basket, hand in made_searches(many):
        for length in range(4):
            for order in itertools.product(range(len(till.vouchers)), repeat=length):
                if fault(till, basket, hand, list(order)) is None:
                    yield till, basket, hand, list(order)


class Priced(unittest.TestCase):
    def test_empty_order(self):
        self.assertEqual(bill_fields(bill_of([Off(5)], [])), ([], [], PRICES, 490, 830))
        self.assertEqual(bill_fields(bill_of([], [])), ([], [], PRICES, 490, 830))
        self.assertEqual(bill_fields(bill_of([], [], Basket([]))), ([], [], [], 0, 0))
        self.assertEqual(bill_fields(bill_of([], [], Basket([Line(1, 5, 0)], 7))), ([], [], [], 7, 7))

    def test_empty_order_of_nothing_held(self):
        bill = priced(Till(PARENTS, [Off(5)], [("only", 0, 0)]), some_basket(), [0], [])
        self.assertEqual(bill_fields(bill), ([], [], PRICES, 490, 830))

    def test_one_voucher_of_each_sort(self):
        for voucher, piece_cuts, carriage_cut, left in (
            (Off(10), [2, 3, 2, 1, 1, 1], 0, [98, 97, 48, 29, 29, 29]),
            (Share(333), [33, 33, 17, 10, 10, 10], 0, [67, 67, 33, 20, 20, 20]),
            (Share(333, True), [33, 33, 16, 9, 10, 10], 0, [67, 67, 34, 21, 20, 20]),
            (Cheapest(2), [0, 100, 0, 30, 0, 30], 0, [100, 0, 50, 0, 30, 0]),
            (Bundle(3, 80), [68, 68, 34, 3, 3, 4], 0, [32, 32, 16, 27, 27, 26]),
            (Carriage(), [0] * 6, 490, PRICES),
            (Carriage(Marks(most=90)), [0] * 6, 90, PRICES),
            (Off(10, Marks(kind=3, lone=True)), [0, 0, 10, 0, 0, 0], 0, [100, 100, 40, 30, 30, 30]),
        ):
            bill = bill_of([Off(1), voucher], [1])
            carriage = 490 - carriage_cut
            expected = ([1], [(1, piece_cuts, carriage_cut)], left, carriage, sum(left) + carriage)
            self.assertEqual(bill_fields(bill), expected, seen(voucher))

    def test_several_vouchers(self):
        bill = bill_of(three_vouchers(), [0, 1, 2])
        self.assertEqual(bill.order, [0, 1, 2])
        self.assertEqual(bill.steps, [
            (0, [11, 12, 6, 3, 4, 4], 0), (1, [8, 9, 5, 2, 3, 3], 0), (2, [0, 0, 0, 0, 0, 0], 90),
        ])
        self.assertEqual((bill.prices, bill.carriage, bill.total), ([81, 79, 39, 25, 23, 23], 400, 670))

    def test_the_order_matters(self):
        bill = bill_of(three_vouchers(), [1, 0])
        self.assertEqual(bill.steps, [(1, [10, 10, 5, 3, 3, 3], 0), (0, [11, 12, 6, 3, 4, 4], 0)])
        self.assertEqual((bill.prices, bill.carriage, bill.total), ([79, 78, 39, 24, 23, 23], 490, 756))
        self.assertEqual(bill_of(three_vouchers(), [0, 1]).total, 760)

    def test_same_voucher_more_than_once(self):
        bill = bill_of([Carriage(Marks(most=200)), Off(5)], [0, 0, 0, 0])
        self.assertEqual([step[2] for step in bill.steps], [200, 200, 90, 0])
        self.assertEqual((bill.order, bill.carriage, bill.total), ([0, 0, 0, 0], 0, 340))

    def test_same_voucher_in_the_till_twice(self):
        voucher = Off(30, Marks(kind=3))
        bill = bill_of([voucher, voucher], [1, 0])
        self.assertEqual(bill.steps, [(1, [0, 0, 30, 0, 0, 0], 0), (0, [0, 0, 20, 0, 0, 0], 0)])
        self.assertEqual(bill.total, 780)

    def test_same_line_in_the_basket_twice(self):
        line = Line(1, 10, 2)
        bill = bill_of([Off(15), Cheapest(2)], [1, 0], Basket([line, line]))
        self.assertEqual(bill.steps, [(1, [0, 10, 0, 10], 0), (0, [7, 0, 8, 0], 0)])
        self.assertEqual((bill.prices, bill.total), ([3, 0, 2, 0], 5))

    def test_marked_lines_behind_a_lone_one(self):
        bill = bill_of([Off(10, Marks(kind=2, lone=True)), Share(500, False, Marks(lone=True))], [0, 1])
        self.assertEqual(bill.steps, [(0, [5, 5, 0, 0, 0, 0], 0), (1, [0, 0, 25, 15, 15, 15], 0)])

    def test_special_prices_of_a_member(self):
        basket = Basket([Line(1, 100, 2, 60), Line(1, 50, 1)], 5, True)
        bill = bill_of([Off(17, Marks(member=True))], [0], basket)
        self.assertEqual(bill_fields(bill), ([0], [(0, [6, 6, 5], 0)], [54, 54, 45], 5, 158))

    def test_vouchers_that_cut_nothing_are_steps_too(self):
        bill = bill_of([Off(0), Cheapest(20), Carriage()], [0, 1, 2], Basket([Line(1, 5, 2)]))
        self.assertEqual(bill.steps, [(0, [0, 0], 0), (1, [0, 0], 0), (2, [0, 0], 0)])
        self.assertEqual(bill.total, 10)

    def test_down_to_nothing(self):
        bill = bill_of([Off(MOST), Carriage()], [0, 1, 0])
        self.assertEqual(bill.steps, [(0, PRICES, 0), (1, [0] * 6, 490), (0, [0] * 6, 0)])
        self.assertEqual((bill.prices, bill.carriage, bill.total), ([0] * 6, 0, 0))

    def test_8_vouchers_and_the_largest_numbers(self):
        basket = Basket([Line(1, MOST, 20), Line(2, MOST, 20), Line(1, MOST, 20)], MOST)
        bill = bill_of([Off(MOST)] * 8, [7, 6, 5, 4, 3, 2, 1, 0], basket)
        self.assertEqual(bill.total, 53 * MOST)
        self.assertEqual([sum(step[1]) for step in bill.steps], [MOST] * 8)

    def test_back_does_not_matter(self):
        totals = [priced(Till(PARENTS, [Off(9)], [], back), some_basket(), [1], [0]).total
                  for back in ("again", "shares")]
        self.assertEqual(totals, [821, 821])

    def test_words_of_the_promise(self):
        lengths = {}
        for till, basket, hand, order in let_by_cases(200):
            bill = priced(till, basket, hand, order)
            self.assertEqual(bill.order, order)
            self.assertEqual(len(bill.steps), len(order))
            for place, number in enumerate(order):
                standing = standing_by(till, basket, order[:place])
                told = cuts(till.vouchers[number], till.parents, basket, standing)
                self.assertEqual(bill.steps[place], (number, told[0], told[1]))
            end = standing_by(till, basket, order)
            self.assertEqual((bill.prices, bill.carriage, bill.total), (end.prices, end.carriage, end.whole()))
            lengths[len(order)] = True
        self.assertEqual(sorted(lengths), [0, 1, 2, 3])

    def test_by_name(self):
        bill = priced(order=[0], hand=[1], basket=some_basket(), till=Till(PARENTS, [Off(9)], []))
        self.assertEqual(bill.total, 821)

    def test_none_may_be_left_out(self):
        with self.assertRaises(TypeError):
            priced(Till(PARENTS, [], []), some_basket(), [])

    def test_kinds(self):
        bill = bill_of(three_vouchers(), [0, 1, 2])
        self.assertIs(type(bill), Bill)
        for told in [bill.order, bill.steps, bill.prices] + [step[1] for step in bill.steps]:
            self.assertIs(type(told), list)
        for step in bill.steps:
            self.assertIs(type(step), tuple)
            for number in step[1] + [step[0], step[2]]:
                self.assertIs(type(number), int)
        for number in bill.order + bill.prices + [bill.carriage, bill.total]:
            self.assertIs(type(number), int)


class Refused(unittest.TestCase):
    def refusal_of(self, till, basket, hand, order):
        with self.assertRaises(NotLet) as caught:
            priced(till, basket, hand, order)
        self.assertIs(type(caught.exception), NotLet)
        return (caught.exception.place, caught.exception.word)

    def test_each_word(self):
        vouchers = [
            Off(5), Off(5, Marks(once=True)), Off(5, Marks(member=True)), Off(5, Marks(kind=5)),
            Off(5, Marks(needs=336)), Carriage(),
        ]
        rules = [("never", 0, 5), ("ahead", 0, 1), ("only", 5, 1)]
        till = Till(PARENTS, vouchers, rules)
        for order, place, word in (
            ([0, 0, 0], 2, "held"), ([1, 1], 1, "once"), ([0, 5], 1, "never"), ([5, 0], 1, "never"),
            ([1, 0], 1, "ahead"), ([2], 0, "member"), ([0, 3], 1, "nothing"), ([0, 4], 1, "needs"),
            ([5], 1, "only"), ([5, 5], 2, "only"), ([4, 5], 2, "only"),
        ):
            self.assertEqual(self.refusal_of(till, some_basket(), [2] * 6, order), (place, word), order)

    def test_held_and_no_voucher(self):
        till = Till(PARENTS, [Off(5), Off(6)], [])
        self.assertEqual(self.refusal_of(till, some_basket(), [0, 1], [1, 0]), (1, "held"))
        self.assertEqual(self.refusal_of(till, some_basket(), [0, 0], [0]), (0, "held"))

    def test_its_classes(self):
        for family in (NotLet, TillError, ValueError):
            with self.assertRaises(family):
                bill_of([Off(5)], [0] * 6)
        with self.assertRaises(NotLet) as caught:
            bill_of([Off(5)], [0] * 6)
        self.assertNotIsInstance(caught.exception, (NoPieces, LineError))
        self.assertEqual((type(caught.exception.place), type(caught.exception.word)), (int, str))

    def test_as_fault_tells(self):
        words = {}
        for till, basket, hand in made_searches(80):
            for order in itertools.product(range(len(till.vouchers)), repeat=2):
                due = fault(till, basket, hand, list(order))
                if due is not None:
                    self.assertEqual(self.refusal_of(till, basket, hand, list(order)), due)
                    words[due[1]] = True
        self.assertEqual(sorted(words), ["ahead", "held", "member", "needs", "never", "nothing", "once", "only"])

    def test_what_is_handed_in_stays(self):
        handed = (Till(PARENTS, three_vouchers(), [("only", 0, 2)]), some_basket(), [1, 1, 1], [0, 1])
        before = seen(handed)
        with self.assertRaises(NotLet):
            priced(*handed)
        self.assertEqual(seen(handed), before)


class Lines(unittest.TestCase):
    def test_several_vouchers_and_a_line_of_no_piece(self):
        basket = some_basket()
        bill = bill_of(three_vouchers(), [0, 1, 2], basket)
        self.assertEqual(line_cuts(basket, bill), [[23, 6, 11, 0], [17, 5, 8, 0], [0, 0, 0, 0]])
        self.assertEqual(line_totals(basket, bill), [160, 39, 71, 0])

    def test_no_steps(self):
        basket = some_basket()
        bill = bill_of([Off(5)], [], basket)
        self.assertEqual((line_cuts(basket, bill), line_totals(basket, bill)), ([], [200, 50, 90, 0]))

    def test_without_lines(self):
        basket = Basket([], 490)
        bill = bill_of([], [], basket)
        self.assertEqual((line_cuts(basket, bill), line_totals(basket, bill)), ([], []))

    def test_only_lines_of_no_piece(self):
        basket = Basket([Line(1, 5, 0), Line(2, 6, 0)], 490)
        self.assertEqual(line_totals(basket, bill_of([], [], basket)), [0, 0])

    def test_lines_of_no_piece_first_and_between(self):
        basket = Basket([Line(1, 9, 0), Line(1, 10, 2), Line(1, 9, 0), Line(1, 20, 1)])
        bill = bill_of([Off(20)], [0], basket)
        self.assertEqual(line_cuts(basket, bill), [[0, 10, 0, 10]])
        self.assertEqual(line_totals(basket, bill), [0, 10, 0, 10])

    def test_same_line_twice(self):
        line = Line(1, 10, 2)
        basket = Basket([line, Line(3, 7, 1), line])
        bill = bill_of([Off(15, Marks(kind=0)), Cheapest(3)], [0, 1], basket)
        self.assertEqual(bill.steps, [(0, [3, 4, 0, 4, 4], 0), (1, [0, 6, 0, 0, 0], 0)])
        self.assertEqual(line_cuts(basket, bill), [[7, 0, 8], [6, 0, 0]])
        self.assertEqual(line_totals(basket, bill), [7, 7, 12])

    def test_price_at_first_is_what_is_left_and_all_cuts(self):
        for till, basket, hand, order in let_by_cases(120):
            bill = priced(till, basket, hand, order)
            told = line_cuts(basket, bill)
            totals = line_totals(basket, bill)
            first = Standing(basket)
            self.assertEqual([len(each) for each in told], [len(basket.lines)] * len(order))
            self.assertEqual(len(totals), len(basket.lines))
            for line in range(len(basket.lines)):
                at_first = sum(price for price, owner in zip(first.prices, first.owners) if owner == line)
                self.assertEqual(at_first, totals[line] + sum(each[line] for each in told))
            self.assertEqual(bill.total, sum(totals) + bill.carriage)

    def test_each_line_by_its_own_pieces(self):
        for till, basket, hand, order in let_by_cases(120):
            bill = priced(till, basket, hand, order)
            owners = Standing(basket).owners
            for step, told in zip(bill.steps, line_cuts(basket, bill)):
                for line in range(len(basket.lines)):
                    self.assertEqual(told[line], sum(cut for cut, owner in zip(step[1], owners) if owner == line))

    def test_a_members_prices(self):
        basket = Basket([Line(1, 100, 2, 60), Line(1, 50, 1)], 5, True)
        bill = bill_of([Off(17)], [0], basket)
        self.assertEqual((line_cuts(basket, bill), line_totals(basket, bill)), ([[12, 5]], [108, 45]))

    def test_by_name(self):
        basket = some_basket()
        bill = bill_of([Off(340)], [0], basket)
        self.assertEqual(line_cuts(bill=bill, basket=basket), [[200, 50, 90, 0]])
        self.assertEqual(line_totals(bill=bill, basket=basket), [0, 0, 0, 0])

    def test_kinds(self):
        basket = some_basket()
        bill = bill_of(three_vouchers(), [0, 1], basket)
        for told in [line_cuts(basket, bill), line_totals(basket, bill)] + line_cuts(basket, bill):
            self.assertIs(type(told), list)
        for number in line_totals(basket, bill) + line_cuts(basket, bill)[0]:
            self.assertIs(type(number), int)


class KeptApart(unittest.TestCase):
    def test_what_is_handed_in_stays(self):
        for till, basket, hand, order in let_by_cases(60):
            handed = (till, basket, hand, order)
            before = seen(handed)
            bill = priced(*handed)
            of_bill = seen(bill)
            line_cuts(basket, bill)
            line_totals(basket, bill)
            self.assertEqual((seen(handed), seen(bill)), (before, of_bill))

    def test_later_change_of_what_was_handed_in(self):
        parents, vouchers, rules = list(PARENTS), three_vouchers(), []
        till = Till(parents, vouchers, rules)
        hand, order = [1, 1, 1], [0, 1]
        bill = priced(till, some_basket(), hand, order)
        before = seen(bill)
        order[0] = 2
        order.append(2)
        hand.clear()
        vouchers.clear()
        rules.append(("never", 0, 1))
        self.assertEqual(seen(bill), before)

    def test_no_list_is_shared(self):
        for till, basket, hand, order in let_by_cases(60):
            one, other = priced(till, basket, hand, order), priced(till, basket, hand, order)
            told = [line_cuts(basket, one), line_cuts(basket, one), line_cuts(basket, other),
                    line_totals(basket, one), line_totals(basket, one), line_totals(basket, other)]
            self.assertTrue(share_no_list(till, basket, hand, order, one, other, told))

    def test_steps_that_cut_nothing_share_no_list(self):
        basket = some_basket()
        bill = bill_of([Off(0)], [0, 0, 0], basket)
        self.assertTrue(share_no_list(bill, line_cuts(basket, bill)))

    def test_change_of_what_was_told_changes_no_other(self):
        basket = some_basket()
        one, other = bill_of(three_vouchers(), [0, 1], basket), bill_of(three_vouchers(), [0, 1], basket)
        before = seen(other)
        told, totals = line_cuts(basket, other), line_totals(basket, other)
        line_cuts(basket, other)[0].clear()
        line_totals(basket, other).clear()
        one.order.clear()
        one.prices[0] = 0
        one.steps[0][1].clear()
        one.steps.clear()
        self.assertEqual(seen(other), before)
        self.assertEqual((line_cuts(basket, other), line_totals(basket, other)), (told, totals))

    def test_what_was_told_may_be_handed_in_again(self):
        till = Till(PARENTS, three_vouchers(), [])
        bill = priced(till, some_basket(), [1, 1, 1], [0, 1])
        again = priced(till, some_basket(), [1, 1, 1], bill.order)
        self.assertEqual(seen(again), seen(bill))
        self.assertTrue(share_no_list(bill, again))

    def test_standing_behind_the_order_is_the_bills(self):
        bill = bill_of(three_vouchers(), [2, 1, 0])
        left = behind(list(reversed(three_vouchers())), PARENTS, some_basket())
        self.assertEqual((bill.prices, bill.total), (left.prices, left.whole()))


if __name__ == "__main__":
    unittest.main()
