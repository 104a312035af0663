"""[11] after, and what [1] and [2] say of it."""

import unittest

from helper import PARENTS, behind, made_cases, seen, share_no_list, some_basket, standing_fields
from voucherstack.cutting import after, cuts, hindrance
from voucherstack.vouchers import Bundle, Carriage, Cheapest, Marks, Off, Share
from voucherstack.wares import Basket, Line, Standing

OWNERS = [0, 0, 1, 2, 2, 2]
NO_MARK = [False, False, False, False]


def after_at_first(voucher, basket):
    return after(voucher, PARENTS, basket, Standing(basket))


def fields_behind(vouchers, basket):
    return standing_fields(behind(vouchers, PARENTS, basket))


class PricesAndCarriage(unittest.TestCase):
    def test_each_sort(self):
        for voucher, prices, carriage in (
            (Off(10), [98, 97, 48, 29, 29, 29], 490),
            (Off(1000), [0] * 6, 490),
            (Share(333), [67, 67, 33, 20, 20, 20], 490),
            (Share(333, True), [67, 67, 34, 21, 20, 20], 490),
            (Cheapest(2), [100, 0, 50, 0, 30, 0], 490),
            (Bundle(3, 80), [32, 32, 16, 27, 27, 26], 490),
            (Carriage(), [100, 100, 50, 30, 30, 30], 0),
            (Carriage(Marks(most=90)), [100, 100, 50, 30, 30, 30], 400),
        ):
            told = standing_fields(after_at_first(voucher, some_basket()))
            self.assertEqual(told, (OWNERS, prices, carriage, NO_MARK), voucher)

    def test_of_a_kind(self):
        told = standing_fields(after_at_first(Off(10, Marks(kind=3)), some_basket()))
        self.assertEqual(told, (OWNERS, [100, 100, 40, 30, 30, 30], 490, NO_MARK))

    def test_less_the_cuts(self):
        for vouchers, basket in made_cases(300):
            standing = behind(vouchers[:-1], PARENTS, basket)
            told = cuts(vouchers[-1], PARENTS, basket, standing)
            left = after(vouchers[-1], PARENTS, basket, standing)
            self.assertEqual(left.prices, [price - cut for price, cut in zip(standing.prices, told[0])])
            self.assertEqual(left.carriage, standing.carriage - told[1])
            self.assertEqual(left.owners, Standing(basket).owners)
            self.assertEqual(left.whole(), standing.whole() - sum(told[0]) - told[1])

    def test_special_prices(self):
        basket = Basket([Line(1, 100, 2, 60), Line(1, 50, 1)], 5, True)
        self.assertEqual(after_at_first(Off(17), basket).prices, [54, 54, 45])

    def test_several_behind_one_another(self):
        basket = some_basket()
        told = fields_behind([Off(40), Share(100), Carriage(Marks(most=90))], basket)
        self.assertEqual(told, (OWNERS, [81, 79, 39, 25, 23, 23], 400, NO_MARK))
        told = fields_behind([Share(100), Off(40), Carriage(), Carriage()], basket)
        self.assertEqual(told, (OWNERS, [79, 78, 39, 24, 23, 23], 0, NO_MARK))

    def test_same_voucher_again(self):
        voucher = Off(10, Marks(kind=3))
        self.assertEqual(behind([voucher, voucher], PARENTS, some_basket()).prices, [100, 100, 30, 30, 30, 30])
        self.assertEqual(behind([voucher] * 6, PARENTS, some_basket()).prices, [100, 100, 0, 30, 30, 30])

    def test_told_also_where_a_hindrance_is(self):
        basket = some_basket()
        for voucher, prices, carriage in (
            (Off(10, Marks(member=True)), [98, 97, 48, 29, 29, 29], 490),
            (Off(10, Marks(needs=341)), [98, 97, 48, 29, 29, 29], 490),
            (Off(10, Marks(kind=5)), [100, 100, 50, 30, 30, 30], 490),
            (Carriage(Marks(kind=5)), [100, 100, 50, 30, 30, 30], 0),
        ):
            self.assertIsNotNone(hindrance(voucher, PARENTS, basket, Standing(basket)))
            self.assertEqual(standing_fields(after_at_first(voucher, basket)), (OWNERS, prices, carriage, NO_MARK))

    def test_without_pieces(self):
        self.assertEqual(fields_behind([Off(5)], Basket([], 490)), ([], [], 490, []))
        self.assertEqual(fields_behind([Carriage()], Basket([Line(1, 5, 0)], 490)), ([], [], 0, [False]))


class MarkedLines(unittest.TestCase):
    def test_lone_marks_lines_that_it_has_cut(self):
        self.assertEqual(after_at_first(Off(1000, Marks(lone=True)), some_basket()).marked, [True, True, True, False])
        told = after_at_first(Off(10, Marks(kind=2, lone=True)), some_basket()).marked
        self.assertEqual(told, [True, False, False, False])

    def test_lone_does_not_mark_lines_that_it_is_about_but_has_not_cut(self):
        for voucher, marked in (
            (Off(0, Marks(lone=True)), NO_MARK),
            (Off(1, Marks(lone=True)), [False, False, True, False]),
            (Share(10, True, Marks(lone=True)), [True, False, False, False]),
            (Share(20, True, Marks(lone=True)), [True, True, True, False]),
            (Cheapest(4, Marks(lone=True)), [False, False, True, False]),
            (Cheapest(7, Marks(lone=True)), NO_MARK),
            (Bundle(3, 0, Marks(kind=1, lone=True)), [True, False, True, False]),
            (Bundle(2, 199, Marks(lone=True)), [True, False, False, False]),
            (Bundle(2, 200, Marks(lone=True)), NO_MARK),
            (Off(10, Marks(most=0, lone=True)), NO_MARK),
            (Off(10, Marks(kind=5, lone=True)), NO_MARK),
        ):
            self.assertEqual(after_at_first(voucher, some_basket()).marked, marked, voucher)

    def test_first_and_middle_piece_of_a_line_count_too(self):
        basket = Basket([Line(1, 10, 3), Line(3, 2, 1)])
        self.assertEqual(after_at_first(Cheapest(2, Marks(lone=True)), basket).prices, [10, 0, 10, 0])
        self.assertEqual(after_at_first(Cheapest(2, Marks(lone=True)), basket).marked, [True, True])
        basket = Basket([Line(1, 0, 1), Line(3, 2, 1)])
        self.assertEqual(after_at_first(Off(9, Marks(lone=True)), basket).marked, [False, True])

    def test_free_carriage_marks_no_line(self):
        told = after_at_first(Carriage(Marks(lone=True)), some_basket())
        self.assertEqual((told.carriage, told.marked), (0, NO_MARK))

    def test_not_lone_marks_none(self):
        for voucher in (Off(1000), Share(1000), Share(1000, True), Cheapest(2), Bundle(2, 0), Carriage()):
            self.assertEqual(after_at_first(voucher, some_basket()).marked, NO_MARK)

    def test_marked_lines_stay_marked(self):
        lone = Off(10, Marks(kind=2, lone=True))
        for voucher in (Off(1000), Off(0), Carriage(), Off(5, Marks(kind=5, lone=True))):
            told = behind([lone, voucher], PARENTS, some_basket()).marked
            self.assertEqual(told, [True, False, False, False])

    def test_several_lone_ones(self):
        vouchers = [Off(10, Marks(kind=2, lone=True)), Off(10, Marks(kind=1, lone=True)), Off(9, Marks(lone=True)),
                    Off(9, Marks(lone=True))]
        told = [behind(vouchers[:many], PARENTS, some_basket()) for many in range(5)]
        self.assertEqual([standing.marked for standing in told], [
            NO_MARK, [True, False, False, False], [True, False, True, False], [True, True, True, False],
            [True, True, True, False],
        ])
        self.assertEqual(told[2].prices, [95, 95, 50, 27, 27, 26])
        self.assertEqual(told[3].prices, [95, 95, 41, 27, 27, 26])
        self.assertEqual(told[4].prices, told[3].prices)

    def test_same_line_twice_is_two_lines(self):
        line = Line(1, 1, 1)
        told = after_at_first(Off(1, Marks(lone=True)), Basket([line, line]))
        self.assertEqual((told.prices, told.marked), ([1, 0], [False, True]))

    def test_words_of_the_promise(self):
        for vouchers, basket in made_cases(300):
            standing = behind(vouchers[:-1], PARENTS, basket)
            told = cuts(vouchers[-1], PARENTS, basket, standing)[0]
            left = after(vouchers[-1], PARENTS, basket, standing)
            for line in range(len(basket.lines)):
                cut = sum(part for part, owner in zip(told, standing.owners) if owner == line)
                marked = standing.marked[line] or vouchers[-1].marks.lone and cut > 0
                self.assertIs(left.marked[line], marked)


class KeptApart(unittest.TestCase):
    def test_a_new_standing(self):
        basket = some_basket()
        standing = Standing(basket)
        for voucher in (Off(10), Off(0), Off(10, Marks(kind=5)), Carriage()):
            left = after(voucher, PARENTS, basket, standing)
            self.assertIsInstance(left, Standing)
            self.assertIsNot(left, standing)

    def test_what_is_handed_in_stays(self):
        for vouchers, basket in made_cases(200):
            parents = list(PARENTS)
            standing = behind(vouchers[:-1], parents, basket)
            handed = (vouchers, parents, basket, standing)
            before = seen(handed)
            after(vouchers[-1], parents, basket, standing)
            self.assertEqual(seen(handed), before)

    def test_no_list_is_shared(self):
        for vouchers, basket in made_cases(200):
            standing = behind(vouchers[:-1], PARENTS, basket)
            one = after(vouchers[-1], PARENTS, basket, standing)
            other = after(vouchers[-1], PARENTS, basket, standing)
            self.assertTrue(share_no_list(standing, one, other, basket))

    def test_change_of_one_changes_no_other(self):
        basket = some_basket()
        standing = Standing(basket)
        one = after(Off(10), PARENTS, basket, standing)
        other = after(Off(10), PARENTS, basket, standing)
        one.owners.clear()
        one.prices.clear()
        one.marked[0] = True
        self.assertEqual(standing_fields(other), (OWNERS, [98, 97, 48, 29, 29, 29], 490, NO_MARK))
        self.assertEqual(standing_fields(standing), (OWNERS, [100, 100, 50, 30, 30, 30], 490, NO_MARK))
        self.assertEqual(standing_fields(after(Off(10), PARENTS, basket, standing)), standing_fields(other))

    def test_by_name(self):
        basket = some_basket()
        left = after(standing=Standing(basket), basket=basket, parents=PARENTS, voucher=Off(10))
        self.assertEqual(left.prices, [98, 97, 48, 29, 29, 29])

    def test_kinds(self):
        for vouchers, basket in made_cases(50):
            left = behind(vouchers, PARENTS, basket)
            for told in (left.owners, left.prices, left.marked):
                self.assertIs(type(told), list)
            for number in left.owners + left.prices + [left.carriage, left.whole()]:
                self.assertIs(type(number), int)
            for mark in left.marked:
                self.assertIs(type(mark), bool)


if __name__ == "__main__":
    unittest.main()
