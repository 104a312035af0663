"""[10] what a voucher wants to cut off, [11] cuts, and what [1] and [2] say of them."""

import unittest

from helper import PARENTS, behind, made_cases, seen, share_no_list, some_basket
from voucherstack.cutting import about, cuts, hindrance
from voucherstack.vouchers import Bundle, Carriage, Cheapest, Marks, Off, Share
from voucherstack.wares import Basket, Line, Standing

MOST = 10 ** 12


def mixed_basket():
    """Prices that are not in order, with alike ones; kind 1 but for the 50 and the 20."""
    prices = [(1, 30), (1, 100), (3, 50), (1, 100), (3, 20), (1, 30), (1, 40)]
    return Basket([Line(kind, price, 1) for kind, price in prices], 490)


def cuts_at_first(voucher, basket):
    return cuts(voucher, PARENTS, basket, Standing(basket))


def dealt_by_words(cut, weights):
    """[3]"""
    s = sum(weights)
    sums = [sum(weights[:place]) for place in range(len(weights) + 1)]
    return [cut * b // s - cut * a // s if s else 0 for a, b in zip(sums, sums[1:])]


def wanted_by_words(voucher, standing, pieces):
    """The first part of [10], piece by piece, as a dict of the wanted cuts."""
    prices = {piece: standing.prices[piece] for piece in pieces}
    s = sum(prices.values())
    falling = sorted(pieces, key=lambda piece: (-prices[piece], piece))
    wanted = dict.fromkeys(pieces, 0)
    if isinstance(voucher, Off):
        cut = voucher.amount if voucher.amount < s else s
        wanted.update(zip(pieces, dealt_by_words(cut, list(prices.values()))))
    elif isinstance(voucher, Share) and not voucher.by_line:
        wanted.update(zip(pieces, dealt_by_words(s * voucher.share // 1000, list(prices.values()))))
    elif isinstance(voucher, Share):
        for line in range(len(standing.marked)):
            own = [piece for piece in pieces if standing.owners[piece] == line]
            weights = [prices[piece] for piece in own]
            wanted.update(zip(own, dealt_by_words(sum(weights) * voucher.share // 1000, weights)))
    elif isinstance(voucher, Cheapest):
        for place, piece in enumerate(falling, start=1):
            if place % voucher.many == 0:
                wanted[piece] = prices[piece]
    elif isinstance(voucher, Bundle):
        while len(falling) >= voucher.many:
            group, falling = falling[:voucher.many], falling[voucher.many:]
            weights = [prices[piece] for piece in group]
            if sum(weights) > voucher.price:
                wanted.update(zip(group, dealt_by_words(sum(weights) - voucher.price, weights)))
    return wanted


def cuts_by_words(voucher, basket, standing):
    pieces = about(voucher, PARENTS, basket, standing)
    wanted = wanted_by_words(voucher, standing, pieces)
    most = voucher.marks.most
    if isinstance(voucher, Carriage):
        carriage = standing.carriage
        return ([0] * len(standing.prices), most if most is not None and carriage > most else carriage)
    if most is not None and sum(wanted.values()) > most:
        wanted = dict(zip(pieces, dealt_by_words(most, [wanted[piece] for piece in pieces])))
    return ([wanted.get(piece, 0) for piece in range(len(standing.prices))], 0)


class CutsOfOff(unittest.TestCase):
    def test_of_all_pieces(self):
        self.assertEqual(cuts_at_first(Off(10), some_basket()), ([2, 3, 2, 1, 1, 1], 0))

    def test_of_a_kind(self):
        self.assertEqual(cuts_at_first(Off(10, Marks(kind=1)), some_basket()), ([3, 3, 0, 1, 1, 2], 0))
        self.assertEqual(cuts_at_first(Off(10, Marks(kind=3)), some_basket()), ([0, 0, 10, 0, 0, 0], 0))

    def test_amount_of_0(self):
        self.assertEqual(cuts_at_first(Off(0), some_basket()), ([0] * 6, 0))

    def test_amount_about_the_sum(self):
        whole = [100, 100, 50, 30, 30, 30]
        self.assertEqual(cuts_at_first(Off(339), some_basket()), ([99, 100, 50, 30, 30, 30], 0))
        for amount in (340, 341, MOST):
            self.assertEqual(cuts_at_first(Off(amount), some_basket()), (whole, 0))

    def test_amount_about_the_sum_of_a_kind(self):
        self.assertEqual(cuts_at_first(Off(49, Marks(kind=3)), some_basket()), ([0, 0, 49, 0, 0, 0], 0))
        for amount in (50, 51, MOST):
            self.assertEqual(cuts_at_first(Off(amount, Marks(kind=3)), some_basket()), ([0, 0, 50, 0, 0, 0], 0))

    def test_carriage_stays(self):
        self.assertEqual(cuts_at_first(Off(MOST), Basket([], 490)), ([], 0))

    def test_prices_of_0(self):
        self.assertEqual(cuts_at_first(Off(5), Basket([Line(1, 0, 3)], 490)), ([0, 0, 0], 0))


class CutsOfShare(unittest.TestCase):
    def test_of_all_pieces(self):
        self.assertEqual(cuts_at_first(Share(333), some_basket()), ([33, 33, 17, 10, 10, 10], 0))

    def test_of_a_kind(self):
        self.assertEqual(cuts_at_first(Share(333, False, Marks(kind=1)), some_basket()), ([33, 33, 0, 10, 10, 10], 0))
        self.assertEqual(cuts_at_first(Share(333, True, Marks(kind=1)), some_basket()), ([33, 33, 0, 9, 10, 10], 0))

    def test_rounded_down(self):
        for price, share, cut in ((999, 1, 0), (1000, 1, 1), (1999, 1, 1), (2000, 1, 2),
                                  (1, 999, 0), (2, 999, 1), (1001, 999, 999), (1000, 999, 999),
                                  (7, 1000, 7), (0, 1000, 0), (MOST, 1, MOST // 1000), (15, 100, 1), (20, 100, 2)):
            basket = Basket([Line(1, price, 1)], 490)
            for by_line in (False, True):
                self.assertEqual(cuts_at_first(Share(share, by_line), basket), ([cut], 0), (price, share))

    def test_lines_are_rounded_together_or_each(self):
        basket = Basket([Line(1, 5, 1), Line(1, 5, 1), Line(1, 5, 1)])
        self.assertEqual(cuts_at_first(Share(100), basket), ([0, 0, 1], 0))
        self.assertEqual(cuts_at_first(Share(100, True), basket), ([0, 0, 0], 0))

    def test_pieces_of_a_line_are_rounded_together(self):
        basket = Basket([Line(1, 5, 3), Line(1, 5, 3)])
        self.assertEqual(cuts_at_first(Share(100), basket), ([0, 1, 0, 1, 0, 1], 0))
        self.assertEqual(cuts_at_first(Share(100, True), basket), ([0, 0, 1, 0, 0, 1], 0))

    def test_same_line_twice_is_two_lines(self):
        line = Line(1, 5, 1)
        self.assertEqual(cuts_at_first(Share(100, True), Basket([line, line])), ([0, 0], 0))
        self.assertEqual(cuts_at_first(Share(100), Basket([line, line])), ([0, 1], 0))

    def test_lines_of_no_piece(self):
        basket = Basket([Line(1, 70, 0), Line(1, 10, 2), Line(2, 70, 0)])
        for by_line in (False, True):
            self.assertEqual(cuts_at_first(Share(100, by_line), basket), ([1, 1], 0))

    def test_the_whole(self):
        for by_line in (False, True):
            self.assertEqual(cuts_at_first(Share(1000, by_line), some_basket()), ([100, 100, 50, 30, 30, 30], 0))

    def test_by_line_behind_another(self):
        basket = Basket([Line(1, 10, 3), Line(1, 10, 1)])
        standing = behind([Off(11)], PARENTS, basket)
        self.assertEqual(standing.prices, [8, 7, 7, 7])
        self.assertEqual(cuts(Share(500, True), PARENTS, basket, standing), ([4, 3, 4, 3], 0))
        self.assertEqual(cuts(Share(500), PARENTS, basket, standing), ([3, 4, 3, 4], 0))


class CutsOfCheapest(unittest.TestCase):
    def test_of_all_pieces(self):
        self.assertEqual(cuts_at_first(Cheapest(3), mixed_basket()), ([0, 0, 50, 0, 0, 30, 0], 0))
        self.assertEqual(cuts_at_first(Cheapest(2), mixed_basket()), ([0, 0, 0, 100, 0, 30, 40], 0))

    def test_of_a_kind(self):
        self.assertEqual(cuts_at_first(Cheapest(2, Marks(kind=1)), mixed_basket()), ([30, 0, 0, 100, 0, 0, 0], 0))
        self.assertEqual(cuts_at_first(Cheapest(2, Marks(kind=3)), mixed_basket()), ([0, 0, 0, 0, 20, 0, 0], 0))

    def test_fewer_pieces_than_many(self):
        self.assertEqual(cuts_at_first(Cheapest(8), mixed_basket()), ([0] * 7, 0))
        self.assertEqual(cuts_at_first(Cheapest(20), mixed_basket()), ([0] * 7, 0))
        self.assertEqual(cuts_at_first(Cheapest(3, Marks(kind=3)), mixed_basket()), ([0] * 7, 0))
        self.assertEqual(cuts_at_first(Cheapest(2), Basket([Line(1, 5, 1)])), ([0], 0))
        self.assertEqual(cuts_at_first(Cheapest(2), Basket([], 490)), ([], 0))

    def test_just_as_many(self):
        self.assertEqual(cuts_at_first(Cheapest(7), mixed_basket()), ([0, 0, 0, 0, 20, 0, 0], 0))
        self.assertEqual(cuts_at_first(Cheapest(5, Marks(kind=1)), mixed_basket()), ([0, 0, 0, 0, 0, 30, 0], 0))

    def test_some_left_over(self):
        self.assertEqual(cuts_at_first(Cheapest(6), mixed_basket()), ([0, 0, 0, 0, 0, 30, 0], 0))
        self.assertEqual(cuts_at_first(Cheapest(4), mixed_basket()), ([0, 0, 0, 0, 0, 0, 40], 0))

    def test_alike_prices(self):
        basket = Basket([Line(1, 10, 7)])
        self.assertEqual(cuts_at_first(Cheapest(2), basket), ([0, 10, 0, 10, 0, 10, 0], 0))
        self.assertEqual(cuts_at_first(Cheapest(3), basket), ([0, 0, 10, 0, 0, 10, 0], 0))

    def test_rising_and_falling_prices(self):
        rising = Basket([Line(1, price, 1) for price in (1, 2, 3, 4, 5)])
        falling = Basket([Line(1, price, 1) for price in (5, 4, 3, 2, 1)])
        self.assertEqual(cuts_at_first(Cheapest(2), rising), ([0, 2, 0, 4, 0], 0))
        self.assertEqual(cuts_at_first(Cheapest(2), falling), ([0, 4, 0, 2, 0], 0))

    def test_prices_as_they_stand(self):
        basket = Basket([Line(1, 50, 1), Line(3, 40, 1), Line(3, 30, 1)])
        standing = behind([Off(25, Marks(kind=1))], PARENTS, basket)
        self.assertEqual(cuts(Cheapest(3), PARENTS, basket, standing), ([25, 0, 0], 0))
        self.assertEqual(cuts(Cheapest(2), PARENTS, basket, standing), ([0, 0, 30], 0))

    def test_price_of_0(self):
        self.assertEqual(cuts_at_first(Cheapest(2), Basket([Line(1, 9, 1), Line(1, 0, 1)])), ([0, 0], 0))


class CutsOfBundle(unittest.TestCase):
    def test_of_all_pieces(self):
        self.assertEqual(cuts_at_first(Bundle(3, 120), mixed_basket()), ([0, 52, 26, 52, 0, 0, 0], 0))
        self.assertEqual(cuts_at_first(Bundle(3, 0), mixed_basket()), ([30, 100, 50, 100, 0, 30, 40], 0))

    def test_of_a_kind(self):
        self.assertEqual(cuts_at_first(Bundle(2, 60, Marks(kind=1)), mixed_basket()), ([5, 70, 0, 70, 0, 0, 5], 0))
        self.assertEqual(cuts_at_first(Bundle(2, 60, Marks(kind=3)), mixed_basket()), ([0, 0, 7, 0, 3, 0, 0], 0))

    def test_group_about_the_price(self):
        for price, cut in ((0, 50), (48, 2), (49, 1), (50, 0), (51, 0), (MOST, 0)):
            told = cuts_at_first(Bundle(2, price), Basket([Line(1, 25, 2)], 490))
            self.assertEqual((sum(told[0]), told[1]), (cut, 0), price)

    def test_one_group_more_and_one_just_or_less(self):
        self.assertEqual(cuts_at_first(Bundle(3, 100), mixed_basket()), ([0, 60, 30, 60, 0, 0, 0], 0))
        self.assertEqual(cuts_at_first(Bundle(3, 101), mixed_basket()), ([0, 59, 30, 60, 0, 0, 0], 0))

    def test_dealt_in_the_order_of_the_group(self):
        self.assertEqual(cuts_at_first(Bundle(3, 99), mixed_basket()), ([0, 60, 31, 60, 0, 1, 0], 0))
        basket = Basket([Line(1, 1, 1), Line(1, 3, 1)])
        self.assertEqual(cuts_at_first(Bundle(2, 1), basket), ([1, 2], 0))
        self.assertEqual(cuts_at_first(Bundle(2, 3), basket), ([1, 0], 0))

    def test_fewer_pieces_than_many(self):
        self.assertEqual(cuts_at_first(Bundle(8, 0), mixed_basket()), ([0] * 7, 0))
        self.assertEqual(cuts_at_first(Bundle(3, 0, Marks(kind=3)), mixed_basket()), ([0] * 7, 0))
        self.assertEqual(cuts_at_first(Bundle(2, 0), Basket([], 490)), ([], 0))

    def test_just_as_many(self):
        self.assertEqual(cuts_at_first(Bundle(7, 0), mixed_basket()), ([30, 100, 50, 100, 20, 30, 40], 0))
        self.assertEqual(cuts_at_first(Bundle(7, 369), mixed_basket()), ([0, 0, 0, 0, 1, 0, 0], 0))

    def test_some_left_over(self):
        self.assertEqual(cuts_at_first(Bundle(4, 0), mixed_basket()), ([0, 100, 50, 100, 0, 0, 40], 0))
        self.assertEqual(cuts_at_first(Bundle(5, 0), mixed_basket()), ([30, 100, 50, 100, 0, 0, 40], 0))

    def test_alike_prices(self):
        basket = Basket([Line(1, 10, 5)])
        self.assertEqual(cuts_at_first(Bundle(2, 19), basket), ([0, 1, 0, 1, 0], 0))
        self.assertEqual(cuts_at_first(Bundle(3, 20), basket), ([3, 3, 4, 0, 0], 0))

    def test_each_group_has_the_price(self):
        basket = Basket([Line(1, 10, 6)])
        self.assertEqual(cuts_at_first(Bundle(3, 0), basket), ([10] * 6, 0))
        self.assertEqual(cuts_at_first(Bundle(2, 16), basket), ([2] * 6, 0))


class CutsOfCarriage(unittest.TestCase):
    def test_all_of_the_carriage_and_no_piece(self):
        self.assertEqual(cuts_at_first(Carriage(), some_basket()), ([0] * 6, 490))
        self.assertEqual(cuts_at_first(Carriage(Marks(kind=3)), some_basket()), ([0] * 6, 490))

    def test_carriage_of_0(self):
        self.assertEqual(cuts_at_first(Carriage(), Basket([Line(1, 5, 2)])), ([0, 0], 0))

    def test_about_no_piece(self):
        self.assertEqual(cuts_at_first(Carriage(), Basket([], 490)), ([], 490))
        self.assertEqual(cuts_at_first(Carriage(Marks(kind=3)), Basket([Line(1, 5, 2)], 490)), ([0, 0], 490))

    def test_what_is_left_of_it(self):
        basket = some_basket()
        standing = behind([Carriage(Marks(most=200))], PARENTS, basket)
        self.assertEqual(cuts(Carriage(), PARENTS, basket, standing), ([0] * 6, 290))

    def test_most(self):
        for most, cut in ((None, 490), (0, 0), (1, 1), (489, 489), (490, 490), (491, 490), (MOST, 490)):
            self.assertEqual(cuts_at_first(Carriage(Marks(most=most)), some_basket()), ([0] * 6, cut), most)


class CutsWithMost(unittest.TestCase):
    def test_each_sort(self):
        sorts = [
            (lambda marks: Off(10, marks), [2, 3, 2, 1, 1, 1]),
            (lambda marks: Share(333, False, marks), [33, 33, 17, 10, 10, 10]),
            (lambda marks: Share(333, True, marks), [33, 33, 16, 9, 10, 10]),
            (lambda marks: Cheapest(2, marks), [0, 100, 0, 30, 0, 30]),
            (lambda marks: Bundle(3, 80, marks), [68, 68, 34, 3, 3, 4]),
        ]
        for make, wanted in sorts:
            whole = sum(wanted)
            for most in (None, whole, whole + 1, MOST):
                self.assertEqual(cuts_at_first(make(Marks(most=most)), some_basket()), (wanted, 0), most)
            for most in (0, 1, 2, whole // 2, whole - 1):
                told = cuts_at_first(make(Marks(most=most)), some_basket())
                self.assertEqual(told, (dealt_by_words(most, wanted), 0), most)
                self.assertEqual(sum(told[0]), most)

    def test_most_of_0(self):
        self.assertEqual(cuts_at_first(Off(10, Marks(most=0)), some_basket()), ([0] * 6, 0))

    def test_dealt_by_the_wanted_cuts_and_not_by_the_prices(self):
        self.assertEqual(cuts_at_first(Cheapest(3, Marks(most=8)), mixed_basket()), ([0, 0, 5, 0, 0, 3, 0], 0))
        self.assertEqual(cuts_at_first(Cheapest(3, Marks(most=1)), mixed_basket()), ([0, 0, 0, 0, 0, 1, 0], 0))

    def test_dealt_in_the_order_of_the_pieces(self):
        basket = Basket([Line(1, 1, 1), Line(1, 3, 1)])
        self.assertEqual(cuts_at_first(Bundle(2, 1, Marks(most=1)), basket), ([0, 1], 0))
        self.assertEqual(cuts_at_first(Bundle(2, 1, Marks(most=2)), basket), ([0, 2], 0))
        self.assertEqual(cuts_at_first(Bundle(2, 1, Marks(most=3)), basket), ([1, 2], 0))

    def test_over_all_lines_and_groups_together(self):
        basket = Basket([Line(1, 10, 2), Line(2, 10, 2)])
        self.assertEqual(cuts_at_first(Share(500, True, Marks(most=10)), basket), ([2, 3, 2, 3], 0))
        self.assertEqual(cuts_at_first(Cheapest(2, Marks(most=10)), basket), ([0, 5, 0, 5], 0))

    def test_of_a_kind(self):
        told = cuts_at_first(Off(MOST, Marks(kind=1, most=29)), some_basket())
        self.assertEqual(told, ([10, 10, 0, 3, 3, 3], 0))


class CutsEverywhere(unittest.TestCase):
    def test_words_of_the_promise(self):
        for vouchers, basket in made_cases(1500):
            for many in range(len(vouchers)):
                standing = behind(vouchers[:many], PARENTS, basket)
                told = cuts(vouchers[many], PARENTS, basket, standing)
                self.assertEqual(told, cuts_by_words(vouchers[many], basket, standing), seen(vouchers[many]))

    def test_bounds(self):
        for vouchers, basket in made_cases(300):
            standing = behind(vouchers[:-1], PARENTS, basket)
            told = cuts(vouchers[-1], PARENTS, basket, standing)
            self.assertEqual(len(told[0]), len(standing.prices))
            for cut, price in zip(told[0], standing.prices):
                self.assertTrue(0 <= cut <= price)
            self.assertTrue(0 <= told[1] <= standing.carriage)

    def test_0_of_what_it_is_not_about(self):
        for vouchers, basket in made_cases(300):
            standing = behind(vouchers[:-1], PARENTS, basket)
            pieces = about(vouchers[-1], PARENTS, basket, standing)
            told = cuts(vouchers[-1], PARENTS, basket, standing)[0]
            for piece, cut in enumerate(told):
                if piece not in pieces:
                    self.assertEqual(cut, 0)

    def test_lone_cuts_nothing_of_marked_lines(self):
        basket = some_basket()
        standing = behind([Off(10, Marks(kind=2, lone=True))], PARENTS, basket)
        self.assertEqual(cuts(Off(14, Marks(lone=True)), PARENTS, basket, standing), ([0, 0, 5, 3, 3, 3], 0))
        self.assertEqual(cuts(Off(330), PARENTS, basket, standing), ([95, 95, 50, 30, 30, 30], 0))

    def test_told_also_where_a_hindrance_is(self):
        basket = some_basket()
        for voucher, word, told in (
            (Off(10, Marks(member=True)), "member", ([2, 3, 2, 1, 1, 1], 0)),
            (Off(10, Marks(needs=341)), "needs", ([2, 3, 2, 1, 1, 1], 0)),
            (Share(1000, True, Marks(kind=3, needs=51)), "needs", ([0, 0, 50, 0, 0, 0], 0)),
            (Off(10, Marks(kind=5)), "nothing", ([0] * 6, 0)),
            (Share(500, False, Marks(kind=5)), "nothing", ([0] * 6, 0)),
            (Share(500, True, Marks(kind=5)), "nothing", ([0] * 6, 0)),
            (Cheapest(2, Marks(kind=5)), "nothing", ([0] * 6, 0)),
            (Bundle(2, 5, Marks(kind=5)), "nothing", ([0] * 6, 0)),
            (Carriage(Marks(kind=5)), "nothing", ([0] * 6, 490)),
            (Carriage(Marks(member=True, most=7)), "member", ([0] * 6, 7)),
        ):
            self.assertEqual(hindrance(voucher, PARENTS, basket, Standing(basket)), word)
            self.assertEqual(cuts_at_first(voucher, basket), told)

    def test_special_prices(self):
        basket = Basket([Line(1, 100, 2, 60), Line(1, 50, 1)], 0, True)
        self.assertEqual(cuts_at_first(Off(17), basket), ([6, 6, 5], 0))
        self.assertEqual(cuts_at_first(Cheapest(3), basket), ([0, 0, 50], 0))

    def test_largest(self):
        basket = Basket([Line(1, MOST, 20), Line(2, MOST, 20), Line(1, MOST, 20)], MOST)
        self.assertEqual(cuts_at_first(Off(MOST), basket), cuts_by_words(Off(MOST), basket, Standing(basket)))
        self.assertEqual(cuts_at_first(Share(1000), basket), ([MOST] * 60, 0))
        self.assertEqual(cuts_at_first(Cheapest(20), basket), (([0] * 19 + [MOST]) * 3, 0))
        self.assertEqual(cuts_at_first(Bundle(20, 0), basket), ([MOST] * 60, 0))
        self.assertEqual(cuts_at_first(Carriage(), basket), ([0] * 60, MOST))

    def test_by_name(self):
        basket = some_basket()
        told = cuts(standing=Standing(basket), basket=basket, parents=PARENTS, voucher=Off(10))
        self.assertEqual(told, ([2, 3, 2, 1, 1, 1], 0))

    def test_kinds(self):
        basket = some_basket()
        for marks in (None, Marks(most=1), Marks(kind=5)):
            for voucher in (Off(10, marks), Share(333, False, marks), Share(333, True, marks), Cheapest(2, marks),
                            Bundle(2, 5, marks), Carriage(marks)):
                told = cuts_at_first(voucher, basket)
                self.assertIs(type(told), tuple)
                self.assertEqual(len(told), 2)
                self.assertIs(type(told[0]), list)
                for number in told[0] + [told[1]]:
                    self.assertIs(type(number), int)


class KeptApart(unittest.TestCase):
    def test_what_is_handed_in_stays(self):
        for vouchers, basket in made_cases(200):
            parents = list(PARENTS)
            standing = behind(vouchers[:-1], parents, basket)
            handed = (vouchers, parents, basket, standing)
            before = seen(handed)
            cuts(vouchers[-1], parents, basket, standing)
            self.assertEqual(seen(handed), before)

    def test_two_calls_tell_two_lists(self):
        for vouchers, basket in made_cases(200):
            standing = behind(vouchers[:-1], PARENTS, basket)
            one = cuts(vouchers[-1], PARENTS, basket, standing)
            other = cuts(vouchers[-1], PARENTS, basket, standing)
            self.assertTrue(share_no_list(one, other, standing, basket))
            kept = seen(other)
            one[0].append(99)
            self.assertEqual(seen(other), kept)
            self.assertEqual(seen(cuts(vouchers[-1], PARENTS, basket, standing)), kept)


if __name__ == "__main__":
    unittest.main()
