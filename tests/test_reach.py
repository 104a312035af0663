"""[11] reach, and what [1] and [2] say of it."""

import unittest

from helper import PARENTS, behind, made_cases, seen
from voucherstack.cutting import about, after, cuts, reach
from voucherstack.vouchers import Bundle, Carriage, Cheapest, Marks, Off, Share
from voucherstack.wares import Basket, Line, Standing

MOST = 10 ** 12


def some_basket():
    """Prices 100, 100 of kind 2, 50 of kind 4, 33, 33, 33 of kind 1: 349 in all, 299 under kind 1."""
    return Basket([Line(2, 100, 2), Line(4, 50, 1), Line(1, 33, 3), Line(0, 70, 0)], 490)


def reach_at_first(voucher, basket):
    return reach(voucher, PARENTS, basket, Standing(basket))


def reach_by_words(voucher, basket, standing):
    s = sum(standing.prices[piece] for piece in about(voucher, PARENTS, basket, standing))
    if isinstance(voucher, Off):
        told = s if s < voucher.amount else voucher.amount
    elif isinstance(voucher, Share):
        told = s * voucher.share // 1000
    elif isinstance(voucher, Cheapest):
        told = s // voucher.many
    else:
        told = s if isinstance(voucher, Bundle) else standing.carriage
    most = voucher.marks.most
    return most if most is not None and most < told else told


class Reach(unittest.TestCase):
    def test_off(self):
        for amount, told in ((0, 0), (1, 1), (348, 348), (349, 349), (350, 349), (MOST, 349)):
            self.assertEqual(reach_at_first(Off(amount), some_basket()), told)
        for amount, told in ((49, 49), (50, 50), (51, 50)):
            self.assertEqual(reach_at_first(Off(amount, Marks(kind=3)), some_basket()), told)

    def test_share(self):
        for by_line in (False, True):
            for share, told in ((1, 0), (3, 1), (333, 116), (999, 348), (1000, 349)):
                self.assertEqual(reach_at_first(Share(share, by_line), some_basket()), told, (share, by_line))
            self.assertEqual(reach_at_first(Share(333, by_line, Marks(kind=1)), some_basket()), 99)

    def test_cheapest(self):
        for many, told in ((2, 174), (3, 116), (6, 58), (7, 49), (20, 17)):
            self.assertEqual(reach_at_first(Cheapest(many), some_basket()), told)
        self.assertEqual(reach_at_first(Cheapest(2, Marks(kind=1)), some_basket()), 149)

    def test_bundle(self):
        for many, price in ((2, 0), (3, 80), (20, 5), (2, MOST)):
            self.assertEqual(reach_at_first(Bundle(many, price), some_basket()), 349)
            self.assertEqual(reach_at_first(Bundle(many, price, Marks(kind=1)), some_basket()), 299)

    def test_carriage(self):
        self.assertEqual(reach_at_first(Carriage(), some_basket()), 490)
        self.assertEqual(reach_at_first(Carriage(Marks(kind=5)), some_basket()), 490)
        self.assertEqual(reach_at_first(Carriage(), Basket([Line(1, 5, 1)])), 0)
        basket = some_basket()
        standing = behind([Carriage(Marks(most=90))], PARENTS, basket)
        self.assertEqual(reach(Carriage(), PARENTS, basket, standing), 400)

    def test_most(self):
        sorts = [
            (lambda marks: Off(10, marks), 10),
            (lambda marks: Off(MOST, marks), 349),
            (lambda marks: Share(333, False, marks), 116),
            (lambda marks: Share(333, True, marks), 116),
            (lambda marks: Cheapest(2, marks), 174),
            (lambda marks: Bundle(3, 80, marks), 349),
            (lambda marks: Carriage(marks), 490),
        ]
        for make, told in sorts:
            for most in (None, told, told + 1, MOST):
                self.assertEqual(reach_at_first(make(Marks(most=most)), some_basket()), told)
            for most in (0, 1, told - 1):
                self.assertEqual(reach_at_first(make(Marks(most=most)), some_basket()), most)

    def test_told_also_where_a_hindrance_is(self):
        self.assertEqual(reach_at_first(Off(10, Marks(member=True)), some_basket()), 10)
        self.assertEqual(reach_at_first(Off(10, Marks(needs=350)), some_basket()), 10)
        for voucher in (Off(10, Marks(kind=5)), Share(500, False, Marks(kind=5)), Cheapest(2, Marks(kind=5)),
                        Bundle(2, 5, Marks(kind=5))):
            self.assertEqual(reach_at_first(voucher, some_basket()), 0)

    def test_marked_lines(self):
        basket = some_basket()
        standing = behind([Off(10, Marks(kind=2, lone=True))], PARENTS, basket)
        self.assertEqual(reach(Bundle(2, 0), PARENTS, basket, standing), 339)
        self.assertEqual(reach(Bundle(2, 0, Marks(lone=True)), PARENTS, basket, standing), 149)

    def test_special_prices(self):
        basket = Basket([Line(1, 100, 2, 60), Line(1, 50, 1)], 5, True)
        self.assertEqual(reach_at_first(Off(MOST), basket), 170)

    def test_words_of_the_promise(self):
        for vouchers, basket in made_cases(500):
            standing = behind(vouchers[:-1], PARENTS, basket)
            told = reach(vouchers[-1], PARENTS, basket, standing)
            self.assertEqual(told, reach_by_words(vouchers[-1], basket, standing), seen(vouchers[-1]))
            self.assertIs(type(told), int)

    def test_no_use_passes_it(self):
        for vouchers, basket in made_cases(500):
            standing = Standing(basket)
            bounds = [reach(voucher, PARENTS, basket, standing) for voucher in vouchers]
            for ahead in vouchers:
                for voucher, bound in zip(vouchers, bounds):
                    told = cuts(voucher, PARENTS, basket, standing)
                    self.assertLessEqual(sum(told[0]) + told[1], bound, seen(voucher))
                standing = after(ahead, PARENTS, basket, standing)

    def test_it_is_met(self):
        basket = Basket([Line(1, 10, 4)], 490)
        for voucher in (Off(7), Share(500), Share(500, True), Cheapest(2), Bundle(2, 0), Carriage()):
            told = cuts(voucher, PARENTS, basket, Standing(basket))
            self.assertEqual(reach_at_first(voucher, basket), sum(told[0]) + told[1])

    def test_largest(self):
        basket = Basket([Line(1, MOST, 20), Line(2, MOST, 20), Line(1, MOST, 20)], MOST)
        told = [reach_at_first(voucher, basket) for voucher in (Off(MOST), Share(1000), Cheapest(2), Bundle(2, 0))]
        self.assertEqual(told, [MOST, 60 * MOST, 30 * MOST, 60 * MOST])

    def test_by_name(self):
        basket = some_basket()
        told = reach(standing=Standing(basket), basket=basket, parents=PARENTS, voucher=Off(10))
        self.assertEqual(told, 10)

    def test_what_is_handed_in_stays(self):
        for vouchers, basket in made_cases(100):
            parents = list(PARENTS)
            standing = behind(vouchers[:-1], parents, basket)
            handed = (vouchers, parents, basket, standing)
            before = seen(handed)
            reach(vouchers[-1], parents, basket, standing)
            self.assertEqual(seen(handed), before)


if __name__ == "__main__":
    unittest.main()
