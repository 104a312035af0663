"""[5] Line and Basket, [6] Standing, and what [1] and [2] say of them."""

import unittest

from voucherstack.wares import Basket, Line, Standing

MOST = 10 ** 12


def line_fields(line):
    return (line.kind, line.price, line.many, line.special)


def basket_fields(basket):
    return (basket.lines, basket.carriage, basket.member)


def standing_fields(standing):
    return (standing.owners, standing.prices, standing.carriage, standing.marked)


def some_lines():
    """Lines with a special price, with none, with one of 0, with no piece, and with a dearer special price."""
    return [Line(0, 100, 2, 80), Line(1, 50, 1), Line(2, 30, 3, 0), Line(0, 70, 0, 60), Line(3, 10, 1, 15)]


class Lines(unittest.TestCase):
    def test_by_place(self):
        self.assertEqual(line_fields(Line(3, 250, 4, 200)), (3, 250, 4, 200))

    def test_by_name(self):
        line = Line(special=200, many=4, price=250, kind=3)
        self.assertEqual(line_fields(line), (3, 250, 4, 200))

    def test_special_left_out(self):
        self.assertEqual(line_fields(Line(3, 250, 4)), (3, 250, 4, None))

    def test_none_but_special_may_be_left_out(self):
        for given in ({"price": 1, "many": 1}, {"kind": 1, "many": 1}, {"kind": 1, "price": 1}):
            with self.assertRaises(TypeError):
                Line(**given)

    def test_special_of_0_is_not_none(self):
        line = Line(0, 5, 1, 0)
        self.assertIsNotNone(line.special)
        self.assertEqual(line.special, 0)

    def test_pieces_0_and_20(self):
        self.assertEqual(Line(0, 5, 0).many, 0)
        self.assertEqual(Line(0, 5, 20).many, 20)

    def test_bounds_of_coin_numbers(self):
        self.assertEqual(line_fields(Line(0, 0, 1, MOST)), (0, 0, 1, MOST))
        self.assertEqual(line_fields(Line(19, MOST, 1, 0)), (19, MOST, 1, 0))

    def test_lines_are_their_own(self):
        one, other = Line(0, 5, 1), Line(1, 6, 2, 3)
        self.assertEqual(line_fields(one), (0, 5, 1, None))
        self.assertEqual(line_fields(other), (1, 6, 2, 3))


class Baskets(unittest.TestCase):
    def test_by_place(self):
        lines = some_lines()
        self.assertEqual(basket_fields(Basket(lines, 490, True)), (lines, 490, True))

    def test_by_name(self):
        lines = some_lines()
        self.assertEqual(basket_fields(Basket(member=True, carriage=490, lines=lines)), (lines, 490, True))

    def test_left_out(self):
        lines = some_lines()
        self.assertEqual(basket_fields(Basket(lines)), (lines, 0, False))
        self.assertEqual(basket_fields(Basket(lines, 490)), (lines, 490, False))
        self.assertEqual(basket_fields(Basket(lines, member=True)), (lines, 0, True))
        self.assertIs(Basket(lines).member, False)
        with self.assertRaises(TypeError):
            Basket()

    def test_without_lines(self):
        self.assertEqual(basket_fields(Basket([])), ([], 0, False))
        self.assertEqual(basket_fields(Basket([], MOST, True)), ([], MOST, True))

    def test_keeps_the_same_lines(self):
        lines = some_lines()
        basket = Basket(lines)
        self.assertIs(type(basket.lines), list)
        self.assertEqual(len(basket.lines), len(lines))
        for kept, handed in zip(basket.lines, lines):
            self.assertIs(kept, handed)

    def test_same_line_twice(self):
        line = Line(0, 5, 1)
        basket = Basket([line, line])
        self.assertEqual(len(basket.lines), 2)
        self.assertIs(basket.lines[0], line)
        self.assertIs(basket.lines[1], line)

    def test_keeps_a_copy_of_the_list(self):
        lines = some_lines()
        kept = list(lines)
        basket = Basket(lines)
        self.assertIsNot(basket.lines, lines)
        lines.append(Line(9, 9, 9))
        lines[0] = Line(8, 8, 8)
        self.assertEqual(basket.lines, kept)

    def test_empty_list_is_copied_too(self):
        lines = []
        basket = Basket(lines)
        lines.append(Line(0, 5, 1))
        self.assertEqual(basket.lines, [])

    def test_two_baskets_share_no_list(self):
        lines = some_lines()
        one, other = Basket(lines), Basket(lines)
        self.assertIsNot(one.lines, other.lines)
        self.assertIsNot(Basket(one.lines).lines, one.lines)

    def test_handed_list_stays(self):
        lines = some_lines()
        kept = list(lines)
        fields = [line_fields(line) for line in lines]
        Basket(lines, 490, True)
        self.assertEqual(lines, kept)
        self.assertEqual([line_fields(line) for line in lines], fields)

    def test_12_lines_and_60_pieces_and_somewhat_more(self):
        for many in (12, 13):
            basket = Basket([Line(0, MOST, 5) for place in range(many)])
            self.assertEqual(len(basket.lines), many)
            self.assertEqual(len(Standing(basket).prices), many * 5)


class Standings(unittest.TestCase):
    def test_not_a_member(self):
        standing = Standing(Basket(some_lines(), 490))
        self.assertEqual(standing.owners, [0, 0, 1, 2, 2, 2, 4])
        self.assertEqual(standing.prices, [100, 100, 50, 30, 30, 30, 10])
        self.assertEqual(standing.carriage, 490)
        self.assertEqual(standing.marked, [False] * 5)

    def test_member(self):
        standing = Standing(Basket(some_lines(), 490, True))
        self.assertEqual(standing.owners, [0, 0, 1, 2, 2, 2, 4])
        self.assertEqual(standing.prices, [80, 80, 50, 0, 0, 0, 15])
        self.assertEqual(standing.carriage, 490)
        self.assertEqual(standing.marked, [False] * 5)

    def test_by_name(self):
        self.assertEqual(Standing(basket=Basket([Line(0, 5, 2)])).prices, [5, 5])

    def test_piece_of_price_0_is_one(self):
        standing = Standing(Basket([Line(0, 0, 2), Line(0, 7, 1, 0)], 0, True))
        self.assertEqual(standing.owners, [0, 0, 1])
        self.assertEqual(standing.prices, [0, 0, 0])

    def test_lines_of_no_piece(self):
        standing = Standing(Basket([Line(0, 5, 0), Line(1, 6, 2), Line(2, 7, 0)]))
        self.assertEqual(standing_fields(standing), ([1, 1], [6, 6], 0, [False, False, False]))

    def test_only_lines_of_no_piece(self):
        standing = Standing(Basket([Line(0, 5, 0), Line(1, 6, 0)], 3))
        self.assertEqual(standing_fields(standing), ([], [], 3, [False, False]))

    def test_same_line_twice(self):
        line = Line(0, 5, 2, 4)
        standing = Standing(Basket([line, Line(1, 9, 1), line], 0, True))
        self.assertEqual(standing_fields(standing), ([0, 0, 1, 2, 2], [4, 4, 9, 4, 4], 0, [False] * 3))

    def test_without_lines(self):
        self.assertEqual(standing_fields(Standing(Basket([]))), ([], [], 0, []))
        self.assertEqual(standing_fields(Standing(Basket([], 490))), ([], [], 490, []))

    def test_20_pieces(self):
        standing = Standing(Basket([Line(0, MOST, 20)]))
        self.assertEqual(standing_fields(standing), ([0] * 20, [MOST] * 20, 0, [False]))

    def test_kinds(self):
        standing = Standing(Basket(some_lines(), 490, True))
        for told in (standing.owners, standing.prices, standing.marked):
            self.assertIs(type(told), list)
        for number in standing.owners + standing.prices + [standing.carriage, standing.whole()]:
            self.assertIs(type(number), int)
        for mark in standing.marked:
            self.assertIs(mark, False)


class Whole(unittest.TestCase):
    def test_pieces_and_carriage(self):
        self.assertEqual(Standing(Basket(some_lines(), 490)).whole(), 350 + 490)
        self.assertEqual(Standing(Basket(some_lines(), 490, True)).whole(), 225 + 490)

    def test_pieces_alone(self):
        self.assertEqual(Standing(Basket(some_lines())).whole(), 350)

    def test_carriage_alone(self):
        self.assertEqual(Standing(Basket([], 490)).whole(), 490)
        self.assertEqual(Standing(Basket([Line(0, 5, 0)], 490)).whole(), 490)

    def test_nothing(self):
        self.assertEqual(Standing(Basket([])).whole(), 0)
        self.assertEqual(Standing(Basket([Line(0, 5, 0)])).whole(), 0)

    def test_largest(self):
        basket = Basket([Line(0, MOST, 20), Line(1, MOST, 20), Line(2, MOST, 20)], MOST)
        self.assertEqual(Standing(basket).whole(), 61 * MOST)

    def test_asked_twice_and_fields_stay(self):
        standing = Standing(Basket(some_lines(), 490))
        before = tuple(map(str, standing_fields(standing)))
        self.assertEqual(standing.whole(), standing.whole())
        self.assertEqual(tuple(map(str, standing_fields(standing))), before)


class StandingKeepsToItself(unittest.TestCase):
    def test_no_two_lists_are_one(self):
        basket = Basket(some_lines(), 490)
        one, other = Standing(basket), Standing(basket)
        told = [basket.lines]
        for standing in (one, other):
            told += [standing.owners, standing.prices, standing.marked]
        self.assertEqual(len({id(each) for each in told}), len(told))

    def test_empty_lists_are_not_one_either(self):
        standing = Standing(Basket([]))
        standing.owners.append(1)
        self.assertEqual((standing.prices, standing.marked), ([], []))
        standing.prices.append(2)
        self.assertEqual(standing.marked, [])

    def test_change_of_one_changes_no_other(self):
        basket = Basket(some_lines(), 490, True)
        one, other = Standing(basket), Standing(basket)
        one.owners.clear()
        one.prices[0] = 9999
        one.marked[0] = True
        for standing in (other, Standing(basket)):
            self.assertEqual(standing.owners, [0, 0, 1, 2, 2, 2, 4])
            self.assertEqual(standing.prices, [80, 80, 50, 0, 0, 0, 15])
            self.assertEqual(standing.marked, [False] * 5)

    def test_basket_stays(self):
        lines = some_lines()
        fields = [line_fields(line) for line in lines]
        basket = Basket(lines, 490, True)
        Standing(basket).whole()
        self.assertEqual(basket_fields(basket), (lines, 490, True))
        self.assertEqual([line_fields(line) for line in lines], fields)

    def test_later_change_of_the_handed_list(self):
        lines = some_lines()
        basket = Basket(lines, 490)
        standing = Standing(basket)
        lines.clear()
        self.assertEqual(standing.whole(), 840)
        self.assertEqual(Standing(basket).whole(), 840)


if __name__ == "__main__":
    unittest.main()
