"""[23] first_use, first_unlike and first_spill, and what [1] and [2] say of them."""

import itertools
import unittest

from helper import Numbers, PARENTS, made_basket, made_till, seen, share_no_list, some_basket, standing_by
from voucherstack.bills import priced
from voucherstack.cutting import about
from voucherstack.looks import first_spill, first_unlike, first_use
from voucherstack.rules import fault
from voucherstack.till import Till
from voucherstack.vouchers import Bundle, Carriage, Cheapest, Marks, Off, Share
from voucherstack.wares import Basket, Line


def till_of(vouchers, rules=()):
    return Till(PARENTS, vouchers, list(rules))


def of_kind(kind, price=100, many=1):
    return Basket([Line(kind, price, many)])


def let_by_by_words(till, basket):
    """Python puts lists in the order of lists by itself."""
    numbers = range(len(till.vouchers))
    every = [list(order) for many in range(len(numbers) + 1) for order in itertools.permutations(numbers, many)]
    return [order for order in sorted(every) if fault(till, basket, [1] * len(numbers), order) is None]


def use_by_words(till, voucher, baskets):
    for number, basket in enumerate(baskets):
        for order in let_by_by_words(till, basket):
            if voucher in order:
                return (number, order)
    return None


def unlike_by_words(till, baskets):
    for number, basket in enumerate(baskets):
        let_by = let_by_by_words(till, basket)
        totals = [priced(till, basket, [1] * len(till.vouchers), order).total for order in let_by]
        for other, total in zip(let_by, totals):
            same = [place for place, order in enumerate(let_by) if sorted(order) == sorted(other)]
            if totals[same[0]] != total:
                return (number, let_by[same[0]], other)
    return None


def spill_by_words(till, baskets):
    for number, basket in enumerate(baskets):
        for order in let_by_by_words(till, basket):
            for place, voucher in enumerate(till.vouchers[each] for each in order):
                standing = standing_by(till, basket, order[:place])
                pieces = about(voucher, till.parents, basket, standing)
                if isinstance(voucher, Off) and voucher.amount > sum(standing.prices[piece] for piece in pieces):
                    return (number, order, place)
    return None


def made_looks(many):
    """Tuples (till, baskets), of at most 4 vouchers."""
    numbers = Numbers(many)
    cases = []
    for number in range(many):
        till = made_till(numbers, 1 + numbers.below(4))
        baskets = [made_basket(numbers) for place in range(numbers.below(4))]
        if numbers.below(2) == 0:
            # A poor basket first, for which hardly a voucher can be used.
            baskets = [of_kind(numbers.below(6), 10)] + baskets
        if baskets and numbers.below(4) == 0:
            baskets.append(baskets[0])
        cases.append((till, baskets))
    return cases


class Use(unittest.TestCase):
    def test_no_basket(self):
        self.assertIsNone(first_use(till_of([Off(5)]), 0, []))

    def test_in_the_first_basket(self):
        self.assertEqual(first_use(till_of([Off(5)]), 0, [some_basket()]), (0, [0]))
        self.assertEqual(first_use(till_of([Off(5)]), 0, [some_basket(), some_basket()]), (0, [0]))

    def test_in_a_later_basket(self):
        till = till_of([Off(5, Marks(kind=3)), Off(5, Marks(needs=200)), Off(5, Marks(member=True))])
        baskets = [of_kind(0), of_kind(3), of_kind(0, 100, 2), Basket([Line(0, 1, 1)], 0, True)]
        self.assertEqual(first_use(till, 0, baskets), (1, [0]))
        self.assertEqual(first_use(till, 1, baskets), (2, [1]))
        self.assertEqual(first_use(till, 2, baskets), (3, [2]))

    def test_a_voucher_that_no_order_has(self):
        baskets = [some_basket(), of_kind(0), Basket([], 490)]
        for marks in (Marks(kind=5), Marks(needs=341), Marks(member=True)):
            self.assertIsNone(first_use(till_of([Off(5, marks), Off(5)]), 0, baskets))
        self.assertIsNone(first_use(till_of([Carriage()]), 0, [Basket([], 490), Basket([Line(0, 5, 0)], 490)]))

    def test_by_an_order_of_several(self):
        self.assertEqual(first_use(till_of([Off(5), Off(6)], [("only", 0, 1)]), 0, [some_basket()]), (0, [0, 1]))
        three = till_of([Off(5), Off(6), Off(7)], [("only", 0, 2), ("only", 2, 1)])
        self.assertEqual(first_use(three, 0, [some_basket()]), (0, [0, 1, 2]))
        self.assertEqual(first_use(three, 1, [some_basket()]), (0, [0, 1, 2]))

    def test_not_at_its_first_place(self):
        rules = [("only", 0, 1), ("ahead", 1, 0)]
        self.assertEqual(first_use(till_of([Off(5), Off(6)], rules), 0, [some_basket()]), (0, [1, 0]))
        rules = [("ahead", 2, 0), ("ahead", 1, 2), ("only", 0, 1), ("only", 1, 2)]
        four = till_of([Off(5), Off(6), Off(7), Off(8)], rules)
        self.assertEqual(first_use(four, 0, [some_basket()]), (0, [1, 2, 0]))

    def test_the_first_in_the_order_of_lists(self):
        till = till_of([Off(5), Off(6), Off(7)])
        # [0, 1] and [0, 1, 2] are ahead of [1] and of [2] in the order of lists.
        self.assertEqual([first_use(till, number, [some_basket()]) for number in range(3)],
                         [(0, [0]), (0, [0, 1]), (0, [0, 1, 2])])

    def test_never(self):
        never = [("never", 0, 1)]
        self.assertEqual(first_use(till_of([Off(5), Off(6)], never), 1, [some_basket()]), (0, [1]))
        self.assertIsNone(first_use(till_of([Off(5), Off(6)], never + [("only", 1, 0)]), 1, [some_basket()]))
        self.assertIsNone(first_use(till_of([Off(5), Off(6)], never + [("only", 0, 1)]), 0, [some_basket()]))

    def test_ahead(self):
        self.assertEqual(first_use(till_of([Off(5), Off(6)], [("ahead", 1, 0)]), 1, [some_basket()]), (0, [1]))
        both = [("ahead", 1, 0), ("ahead", 0, 1), ("only", 0, 1)]
        self.assertIsNone(first_use(till_of([Off(5), Off(6)], both), 0, [some_basket()]))

    def test_only_of_a_voucher_that_cannot_be_used(self):
        till = till_of([Off(5), Off(6, Marks(kind=3))], [("only", 0, 1)])
        self.assertIsNone(first_use(till, 0, [of_kind(0)]))
        self.assertEqual(first_use(till, 0, [of_kind(0), of_kind(4)]), (1, [0, 1]))

    def test_one_of_each_is_held(self):
        # Used twice, voucher 0 would leave too little for voucher 1; once is all there is.
        till = till_of([Off(60), Off(5, Marks(needs=40))], [("ahead", 0, 1), ("only", 1, 0)])
        self.assertEqual(first_use(till, 1, [of_kind(0)]), (0, [0, 1]))
        self.assertEqual(first_use(till_of([Off(5, Marks(once=True))], [("never", 0, 0)]), 0, [of_kind(0)]), (0, [0]))

    def test_behind_another_too_little_is_left(self):
        till = till_of([Off(60), Off(5, Marks(needs=41))])
        self.assertEqual(first_use(till, 1, [of_kind(0)]), (0, [1]))

    def test_same_basket_twice(self):
        fitting, other = of_kind(3), of_kind(0)
        till = till_of([Off(5, Marks(kind=3))])
        self.assertEqual(first_use(till, 0, [fitting, fitting]), (0, [0]))
        self.assertEqual(first_use(till, 0, [other, other, fitting, fitting]), (2, [0]))
        self.assertIsNone(first_use(till, 0, [other, other]))

    def test_same_voucher_twice(self):
        voucher = Off(5)
        till = till_of([voucher, voucher])
        self.assertEqual(first_use(till, 0, [some_basket()]), (0, [0]))
        self.assertEqual(first_use(till, 1, [some_basket()]), (0, [0, 1]))

    def test_words_of_the_promise(self):
        found = {}
        for till, baskets in made_looks(300):
            for voucher in range(len(till.vouchers)):
                told = first_use(till, voucher, baskets)
                self.assertEqual(told, use_by_words(till, voucher, baskets), seen((till, baskets)))
                found[repr(told)] = True
        self.assertGreater(len(found), 20)


class Unlike(unittest.TestCase):
    def test_no_basket(self):
        self.assertIsNone(first_unlike(till_of([Off(10), Share(500)]), []))

    def test_no_vouchers(self):
        self.assertIsNone(first_unlike(till_of([]), [some_basket(), some_basket()]))

    def test_alike(self):
        self.assertIsNone(first_unlike(till_of([Off(5), Off(6), Off(7), Carriage()]), [some_basket()]))

    def test_unlike(self):
        # 100 - 10 = 90, and half of it 45; half of 100 is 50, and 50 - 10 = 40.
        self.assertEqual(first_unlike(till_of([Off(10), Share(500)]), [of_kind(0)]), (0, [0, 1], [1, 0]))
        self.assertEqual(first_unlike(till_of([Share(500), Off(10)]), [of_kind(0)]), (0, [0, 1], [1, 0]))

    def test_orders_of_other_vouchers(self):
        self.assertIsNone(first_unlike(till_of([Off(10)]), [of_kind(0)]))
        self.assertIsNone(first_unlike(till_of([Off(10), Share(500)], [("never", 0, 1)]), [of_kind(0)]))
        self.assertIsNone(first_unlike(till_of([Off(10), Share(500)], [("ahead", 0, 1)]), [of_kind(0)]))
        self.assertIsNone(first_unlike(till_of([Off(10), Share(500)], [("only", 0, 1), ("ahead", 1, 0)]), [of_kind(0)]))

    def test_same_voucher_twice_is_held_apart_by_its_numbers(self):
        # Where 1 and 2 were one and the same, [0, 1] would be held against [2, 0], too.
        half = Share(500)
        till = till_of([Off(10), half, half], [("ahead", 0, 1), ("ahead", 2, 0), ("never", 1, 2)])
        self.assertIsNone(first_unlike(till, [of_kind(0)]))
        self.assertEqual(first_unlike(till_of([Off(10), half, half]), [of_kind(0)]), (0, [0, 1], [1, 0]))
        self.assertIsNone(first_unlike(till_of([half, half]), [of_kind(0)]))

    def test_the_first_that_is_let_by_is_not_the_first_of_all(self):
        # Only all three together, and 1 not behind 0: [1, 0, 2] and [1, 2, 0] are 20, [2, 1, 0] is 30.
        rules = [("only", 0, 1), ("only", 1, 2), ("only", 2, 0), ("ahead", 1, 0)]
        till = till_of([Off(10), Share(500), Off(20)], rules)
        self.assertEqual(first_unlike(till, [of_kind(0)]), (0, [1, 0, 2], [2, 1, 0]))

    def test_the_first_other_in_the_order_of_lists(self):
        # [0, 1, 2] is 98, 49, 45 and [0, 2, 1] is 98, 94, 47; both are ahead of [1, 0].
        till = till_of([Off(2), Share(500), Off(4)])
        self.assertEqual(first_unlike(till, [of_kind(0)]), (0, [0, 1, 2], [0, 2, 1]))
        # [0, 1] is 98, 49 and [1, 0] is 50, 48.
        till = till_of([Off(2), Share(500), Off(4)], [("never", 0, 2)])
        self.assertEqual(first_unlike(till, [of_kind(0)]), (0, [0, 1], [1, 0]))

    def test_an_alike_one_between(self):
        # Only all three together, and 1 not behind 2: [0, 1, 2] and [1, 0, 2] are 70, 35; [1, 2, 0] is 80, 40, 30.
        rules = [("only", 0, 1), ("only", 1, 2), ("only", 2, 0), ("ahead", 1, 2)]
        till = till_of([Off(10), Off(20), Share(500)], rules)
        self.assertEqual(first_unlike(till, [of_kind(0)]), (0, [0, 1, 2], [1, 2, 0]))
        till = till_of([Off(10), Off(20), Share(500)], rules + [("ahead", 0, 2)])
        self.assertIsNone(first_unlike(till, [of_kind(0)]))

    def test_carriage(self):
        # By 1 first the piece costs less than voucher 0 needs, so that only one order of both is let by.
        till = till_of([Carriage(Marks(needs=100)), Off(10)])
        self.assertIsNone(first_unlike(till, [Basket([Line(0, 100, 1)], 490)]))
        till = till_of([Carriage(Marks(most=245)), Carriage(Marks(most=300))])
        self.assertIsNone(first_unlike(till, [Basket([Line(0, 100, 1)], 490)]))

    def test_in_a_later_basket(self):
        till = till_of([Off(10, Marks(kind=3)), Share(500)])
        self.assertEqual(first_unlike(till, [of_kind(0), Basket([]), of_kind(4), of_kind(3)]), (2, [0, 1], [1, 0]))

    def test_same_basket_twice(self):
        till, basket = till_of([Off(10, Marks(kind=3)), Share(500)]), of_kind(3)
        self.assertEqual(first_unlike(till, [basket, basket]), (0, [0, 1], [1, 0]))
        self.assertEqual(first_unlike(till, [of_kind(0), basket, basket]), (1, [0, 1], [1, 0]))

    def test_the_two_lists_are_not_one(self):
        told = first_unlike(till_of([Off(10), Share(500)]), [of_kind(0)])
        self.assertIsNot(told[1], told[2])
        told[1].append(7)
        self.assertEqual(told[2], [1, 0])

    def test_words_of_the_promise(self):
        found = {}
        for till, baskets in made_looks(400):
            told = first_unlike(till, baskets)
            self.assertEqual(told, unlike_by_words(till, baskets), seen((till, baskets)))
            found[repr(told)] = True
        self.assertGreater(len(found), 10)


class Spill(unittest.TestCase):
    def test_no_basket(self):
        self.assertIsNone(first_spill(till_of([Off(10 ** 12)]), []))

    def test_no_vouchers(self):
        self.assertIsNone(first_spill(till_of([]), [some_basket()]))

    def test_just_the_prices(self):
        self.assertIsNone(first_spill(till_of([Off(340)]), [some_basket()]))
        self.assertEqual(first_spill(till_of([Off(341)]), [some_basket()]), (0, [0], 0))
        self.assertIsNone(first_spill(till_of([Off(339)]), [some_basket()]))

    def test_the_carriage_is_no_price_of_a_piece(self):
        self.assertEqual(first_spill(till_of([Off(101)]), [Basket([Line(0, 100, 1)], 490)]), (0, [0], 0))

    def test_prices_of_members(self):
        till = till_of([Off(90)])
        self.assertIsNone(first_spill(till, [Basket([Line(0, 100, 1, 80)])]))
        self.assertEqual(first_spill(till, [Basket([Line(0, 100, 1, 80)], 0, True)]), (0, [0], 0))

    def test_of_a_kind(self):
        self.assertIsNone(first_spill(till_of([Off(50, Marks(kind=3))]), [some_basket()]))
        self.assertEqual(first_spill(till_of([Off(51, Marks(kind=3))]), [some_basket()]), (0, [0], 0))
        self.assertEqual(first_spill(till_of([Off(91), Off(291, Marks(kind=0))]), [some_basket()]), (0, [0, 1], 1))

    def test_prices_as_those_ahead_have_left_them(self):
        self.assertEqual(first_spill(till_of([Off(60), Off(41)]), [of_kind(0)]), (0, [0, 1], 1))
        self.assertIsNone(first_spill(till_of([Off(60), Off(40)]), [of_kind(0)]))
        self.assertEqual(first_spill(till_of([Share(500), Off(51)]), [of_kind(0)]), (0, [0, 1], 1))
        self.assertIsNone(first_spill(till_of([Share(500), Off(50)]), [of_kind(0)]))

    def test_lone(self):
        # Behind voucher 0 the line of kind 0 is marked, and the lone voucher 1 is about the other one alone.
        basket = Basket([Line(0, 100, 1), Line(3, 50, 1)])
        first = Off(10, Marks(kind=0, lone=True))
        self.assertEqual(first_spill(till_of([first, Off(51, Marks(lone=True))]), [basket]), (0, [0, 1], 1))
        self.assertIsNone(first_spill(till_of([first, Off(50, Marks(lone=True))]), [basket]))
        # One that is not lone is about all of them.
        self.assertIsNone(first_spill(till_of([first, Off(140)], [("ahead", 0, 1)]), [basket]))
        self.assertEqual(first_spill(till_of([first, Off(141)], [("ahead", 0, 1)]), [basket]), (0, [0, 1], 1))

    def test_pieces_of_price_0(self):
        self.assertIsNone(first_spill(till_of([Off(0)]), [of_kind(0, 0)]))
        self.assertEqual(first_spill(till_of([Off(1)]), [of_kind(0, 0)]), (0, [0], 0))

    def test_about_no_piece_is_not_let_by(self):
        self.assertIsNone(first_spill(till_of([Off(1)]), [Basket([], 490), Basket([Line(0, 100, 0)])]))

    def test_most_changes_nothing_of_the_amount(self):
        self.assertEqual(first_spill(till_of([Off(101, Marks(most=5))]), [of_kind(0)]), (0, [0], 0))
        # What the one ahead has cut is what its most lets it.
        self.assertIsNone(first_spill(till_of([Off(100, Marks(most=5)), Off(95)], [("ahead", 0, 1)]), [of_kind(0)]))

    def test_other_vouchers_never_spill(self):
        vouchers = [Share(1000), Cheapest(2), Bundle(2, 0), Carriage()]
        self.assertIsNone(first_spill(till_of(vouchers), [some_basket(), of_kind(0, 0, 3)]))

    def test_the_first_order_that_is_let_by(self):
        till = till_of([Off(101), Off(5)], [("only", 0, 1)])
        self.assertEqual(first_spill(till, [of_kind(0)]), (0, [0, 1], 0))
        till = till_of([Off(101), Off(5)], [("only", 0, 1), ("ahead", 1, 0)])
        self.assertEqual(first_spill(till, [of_kind(0)]), (0, [1, 0], 1))
        self.assertIsNone(first_spill(till_of([Off(101), Off(5)], [("only", 0, 1), ("never", 0, 1)]), [of_kind(0)]))

    def test_the_first_place(self):
        till = till_of([Off(70), Off(60), Off(50)], [("only", 0, 1), ("only", 0, 2)])
        self.assertEqual(first_spill(till, [of_kind(0)]), (0, [0, 1, 2], 1))
        till = till_of([Off(5), Off(200), Off(300)], [("only", 0, 1), ("only", 1, 2)])
        self.assertEqual(first_spill(till, [of_kind(0)]), (0, [0, 1, 2], 1))

    def test_the_first_order_not_the_first_place(self):
        # [0, 1] is ahead of [1] in the order of lists.
        self.assertEqual(first_spill(till_of([Off(5), Off(200)]), [of_kind(0)]), (0, [0, 1], 1))

    def test_the_first_basket(self):
        till = till_of([Off(40), Off(70)])
        self.assertEqual(first_spill(till, [of_kind(0, 110), of_kind(0, 109), of_kind(0, 1)]), (1, [0, 1], 1))
        self.assertEqual(first_spill(till, [of_kind(0, 110), Basket([]), of_kind(0, 1), of_kind(0, 109)]), (2, [0], 0))

    def test_same_basket_and_same_voucher_twice(self):
        voucher, basket = Off(60), of_kind(0)
        self.assertEqual(first_spill(till_of([voucher, voucher]), [basket, basket]), (0, [0, 1], 1))
        self.assertIsNone(first_spill(till_of([voucher]), [basket, basket]))

    def test_words_of_the_promise(self):
        found = {}
        for till, baskets in made_looks(400):
            told = first_spill(till, baskets)
            self.assertEqual(told, spill_by_words(till, baskets), seen((till, baskets)))
            found[repr(told)] = True
        self.assertGreater(len(found), 10)


class KeptApart(unittest.TestCase):
    def all_looks(self, till, baskets):
        uses = [first_use(till, voucher, baskets) for voucher in range(len(till.vouchers))]
        return uses + [first_unlike(till, baskets), first_spill(till, baskets)]

    def test_what_is_handed_in_stays(self):
        for handed in made_looks(60):
            before = seen(handed)
            told = self.all_looks(*handed)
            self.assertEqual(seen(handed), before)
            self.assertEqual(self.all_looks(*handed), told)

    def test_no_list_is_shared(self):
        for till, baskets in made_looks(60):
            # Each basket once, as the same one may be there twice.
            handed = (till, [basket for place, basket in enumerate(baskets) if basket not in baskets[:place]])
            self.assertTrue(share_no_list(handed, self.all_looks(till, baskets), self.all_looks(till, baskets)))

    def test_later_changes_change_nothing_told(self):
        till, baskets = till_of([Off(60), Share(500), Off(70)]), [of_kind(0)]
        told = self.all_looks(till, baskets)
        before = seen(told)
        other = self.all_looks(till, baskets)
        for each in other:
            each[1].reverse()
            each[1].append(9)
        till.vouchers.pop()
        till.rules.append(("never", 0, 1))
        baskets.clear()
        self.assertEqual(seen(told), before)

    def test_what_was_told_may_be_handed_in_again(self):
        till, basket = till_of([Off(10), Share(500)]), of_kind(0)
        told = first_unlike(till, [basket])
        totals = [priced(till, basket, [1, 1], order).total for order in told[1:]]
        self.assertEqual(totals, [45, 40])

    def test_by_name(self):
        till, baskets = till_of([Off(101), Share(500)]), [of_kind(0)]
        self.assertEqual(first_use(baskets=baskets, voucher=1, till=till), (0, [0, 1]))
        self.assertIsNone(first_unlike(baskets=baskets, till=till_of([])))
        self.assertEqual(first_spill(baskets=baskets, till=till), (0, [0], 0))

    def test_kinds(self):
        till, baskets = till_of([Off(10), Share(500), Off(99)]), [of_kind(0)]
        for told, kinds in (
            (first_use(till, 1, baskets), [int, list]),
            (first_unlike(till, baskets), [int, list, list]),
            (first_spill(till, baskets), [int, list, int]),
        ):
            self.assertIs(type(told), tuple)
            self.assertEqual([type(each) for each in told], kinds)

    def test_back_does_not_matter(self):
        vouchers = [Off(60), Share(500)]
        self.assertEqual(self.all_looks(Till(PARENTS, vouchers, [], "shares"), [of_kind(0)]),
                         self.all_looks(Till(PARENTS, vouchers, [], "again"), [of_kind(0)]))

    def test_at_the_bounds_and_somewhat_beyond(self):
        for many in (4, 5):
            till = till_of([Off(1) for place in range(many - 1)] + [Off(5, Marks(kind=3))])
            last = list(range(many))
            for before in (19, 21):
                baskets = [of_kind(0)] * before + [of_kind(3)]
                self.assertEqual(first_use(till, many - 1, baskets), (before, last))
                self.assertIsNone(first_unlike(till, baskets))


if __name__ == "__main__":
    unittest.main()
