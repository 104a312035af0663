"""[8] about and [9] hindrance, and what [1] and [2] say of them."""

import unittest

from helper import PARENTS, behind, made_cases, seen
from voucherstack.cutting import about, after, hindrance
from voucherstack.vouchers import Bundle, Carriage, Cheapest, Marks, Off, Share
from voucherstack.wares import Basket, Line, Standing


def some_basket(member=False):
    """Pieces 0 and 1 of kind 2, piece 2 of kind 4, pieces 3 to 5 of kind 1, none of kind 0, piece 6 of kind 5."""
    lines = [Line(2, 100, 2, 90), Line(4, 50, 1), Line(1, 30, 3), Line(0, 70, 0), Line(5, 20, 1)]
    return Basket(lines, 490, member)


def each_sort(marks):
    return [Off(5, marks), Share(100, False, marks), Share(100, True, marks), Cheapest(2, marks),
            Bundle(2, 10, marks), Carriage(marks)]


def about_at_first(marks, basket):
    return about(Off(5, marks), PARENTS, basket, Standing(basket))


def lines_marked(kinds, basket):
    """A standing in which a lone voucher has cut off something of each line of these kinds."""
    return behind([Share(500, True, Marks(kind=kind, lone=True)) for kind in kinds], PARENTS, basket)


class About(unittest.TestCase):
    def test_kind_of_none(self):
        self.assertEqual(about_at_first(Marks(), some_basket()), [0, 1, 2, 3, 4, 5, 6])
        self.assertEqual(about_at_first(None, some_basket()), [0, 1, 2, 3, 4, 5, 6])

    def test_kind_itself(self):
        self.assertEqual(about_at_first(Marks(kind=2), some_basket()), [0, 1])
        self.assertEqual(about_at_first(Marks(kind=4), some_basket()), [2])

    def test_kind_by_several_steps(self):
        self.assertEqual(about_at_first(Marks(kind=1), some_basket()), [0, 1, 3, 4, 5])
        self.assertEqual(about_at_first(Marks(kind=0), some_basket()), [0, 1, 3, 4, 5, 6])

    def test_kind_of_another_tree(self):
        self.assertEqual(about_at_first(Marks(kind=3), some_basket()), [2])
        basket = Basket([Line(2, 100, 2), Line(0, 5, 1)])
        self.assertEqual(about_at_first(Marks(kind=3), basket), [])

    def test_parent_is_not_under_its_child(self):
        basket = Basket([Line(0, 100, 2), Line(1, 5, 1), Line(2, 5, 1)])
        self.assertEqual(about_at_first(Marks(kind=1), basket), [2, 3])

    def test_each_sort(self):
        basket = some_basket()
        for voucher in each_sort(Marks(kind=1)):
            self.assertEqual(about(voucher, PARENTS, basket, Standing(basket)), [0, 1, 3, 4, 5])

    def test_by_name(self):
        basket = some_basket()
        told = about(standing=Standing(basket), basket=basket, parents=PARENTS, voucher=Off(5, Marks(kind=4)))
        self.assertEqual(told, [2])

    def test_lone_without_marked_lines(self):
        self.assertEqual(about_at_first(Marks(lone=True), some_basket()), [0, 1, 2, 3, 4, 5, 6])
        self.assertEqual(about_at_first(Marks(kind=1, lone=True), some_basket()), [0, 1, 3, 4, 5])

    def test_lone_with_marked_lines(self):
        basket = some_basket()
        standing = lines_marked([2, 5], basket)
        self.assertEqual(about(Off(5, Marks(lone=True)), PARENTS, basket, standing), [2, 3, 4, 5])
        self.assertEqual(about(Off(5, Marks(kind=1, lone=True)), PARENTS, basket, standing), [3, 4, 5])
        self.assertEqual(about(Off(5, Marks(kind=2, lone=True)), PARENTS, basket, standing), [])

    def test_not_lone_with_marked_lines(self):
        basket = some_basket()
        standing = lines_marked([2, 5], basket)
        self.assertEqual(about(Off(5), PARENTS, basket, standing), [0, 1, 2, 3, 4, 5, 6])
        self.assertEqual(about(Off(5, Marks(kind=2)), PARENTS, basket, standing), [0, 1])

    def test_all_lines_marked(self):
        basket = some_basket()
        standing = lines_marked([None], basket)
        self.assertEqual(about(Off(5, Marks(lone=True)), PARENTS, basket, standing), [])
        self.assertEqual(about(Off(5), PARENTS, basket, standing), [0, 1, 2, 3, 4, 5, 6])

    def test_lines_of_no_piece(self):
        self.assertEqual(about_at_first(Marks(kind=0), Basket([Line(0, 70, 0)])), [])
        self.assertEqual(about_at_first(Marks(kind=0), Basket([Line(0, 70, 0), Line(0, 5, 2), Line(1, 5, 0)])), [0, 1])

    def test_without_lines(self):
        self.assertEqual(about_at_first(Marks(), Basket([], 490)), [])

    def test_same_line_twice(self):
        line = Line(1, 30, 2)
        basket = Basket([line, Line(3, 5, 1), line])
        self.assertEqual(about_at_first(Marks(kind=1), basket), [0, 1, 3, 4])

    def test_pieces_of_price_0(self):
        basket = Basket([Line(1, 0, 2), Line(3, 5, 1)])
        self.assertEqual(about_at_first(Marks(), basket), [0, 1, 2])
        self.assertEqual(about(Off(5), PARENTS, basket, behind([Off(9)], PARENTS, basket)), [0, 1, 2])

    def test_needs_and_member_do_not_matter(self):
        self.assertEqual(about_at_first(Marks(kind=4, needs=10 ** 12, member=True), some_basket()), [2])

    def test_60_pieces_and_20_kinds(self):
        basket = Basket([Line(19, 5, 5) for place in range(12)])
        standing = Standing(basket)
        parents = [None] + list(range(19))
        self.assertEqual(about(Off(5, Marks(kind=0)), parents, basket, standing), list(range(60)))

    def test_words_of_the_promise(self):
        for vouchers, basket in made_cases(300):
            standing = behind(vouchers[:-1], PARENTS, basket)
            marks = vouchers[-1].marks
            told = []
            for piece in range(len(standing.prices)):
                kinds = [basket.lines[standing.owners[piece]].kind]
                while PARENTS[kinds[-1]] is not None:
                    kinds.append(PARENTS[kinds[-1]])
                if marks.kind in [None] + kinds and not (marks.lone and standing.marked[standing.owners[piece]]):
                    told.append(piece)
            self.assertEqual(about(vouchers[-1], PARENTS, basket, standing), told)


class Hindrance(unittest.TestCase):
    def told(self, marks, basket):
        """What is told alike of each sort."""
        words = [hindrance(voucher, PARENTS, basket, Standing(basket)) for voucher in each_sort(marks)]
        for word in words:
            self.assertEqual(word, words[0])
        return words[0]

    def test_none(self):
        self.assertIsNone(self.told(Marks(), some_basket()))
        self.assertIsNone(self.told(Marks(kind=1, needs=100, member=True), some_basket(True)))
        self.assertIsNone(self.told(Marks(), some_basket(True)))

    def test_member(self):
        self.assertEqual(self.told(Marks(member=True), some_basket()), "member")
        self.assertIsNone(self.told(Marks(member=True), some_basket(True)))

    def test_nothing(self):
        self.assertEqual(self.told(Marks(kind=3), Basket([Line(1, 5, 1)])), "nothing")
        self.assertEqual(self.told(Marks(), Basket([Line(1, 5, 0)], 490)), "nothing")
        self.assertEqual(self.told(Marks(), Basket([], 490)), "nothing")

    def test_nothing_where_all_lines_are_marked(self):
        basket = some_basket()
        standing = lines_marked([1], basket)
        self.assertEqual(hindrance(Off(5, Marks(kind=1, lone=True)), PARENTS, basket, standing), "nothing")
        self.assertIsNone(hindrance(Off(5, Marks(kind=1)), PARENTS, basket, standing))
        self.assertIsNone(hindrance(Off(5, Marks(lone=True)), PARENTS, basket, standing))

    def test_pieces_of_price_0_are_not_nothing(self):
        self.assertIsNone(self.told(Marks(), Basket([Line(1, 0, 1)])))
        self.assertEqual(self.told(Marks(needs=1), Basket([Line(1, 0, 3)])), "needs")

    def test_needs(self):
        for needs, word in ((0, None), (1, None), (359, None), (360, None), (361, "needs"), (10 ** 12, "needs")):
            self.assertEqual(self.told(Marks(needs=needs), some_basket()), word, needs)

    def test_needs_of_the_pieces_it_is_about(self):
        for needs, word in ((49, None), (50, None), (51, "needs"), (360, "needs")):
            self.assertEqual(self.told(Marks(kind=3, needs=needs), some_basket()), word, needs)

    def test_needs_by_the_special_prices(self):
        for needs, word in ((179, None), (180, None), (181, "needs"), (200, "needs")):
            self.assertEqual(self.told(Marks(kind=2, needs=needs), some_basket(True)), word, needs)

    def test_needs_by_the_prices_as_they_stand(self):
        basket = some_basket()
        standing = behind([Off(70)], PARENTS, basket)
        for needs, word in ((289, None), (290, None), (291, "needs"), (360, "needs")):
            self.assertEqual(hindrance(Off(5, Marks(needs=needs)), PARENTS, basket, standing), word, needs)

    def test_needs_does_not_count_the_carriage(self):
        self.assertEqual(self.told(Marks(needs=6), Basket([Line(1, 5, 1)], 490)), "needs")

    def test_needs_of_0(self):
        self.assertIsNone(self.told(Marks(needs=0), Basket([Line(1, 0, 1)])))
        self.assertEqual(self.told(Marks(needs=0), Basket([])), "nothing")

    def test_carriage_of_0_is_no_hindrance(self):
        basket = Basket([Line(1, 5, 1)], 0)
        self.assertIsNone(hindrance(Carriage(), PARENTS, basket, Standing(basket)))

    def test_member_ahead_of_nothing_and_needs(self):
        self.assertEqual(self.told(Marks(kind=3, needs=5, member=True), Basket([Line(1, 5, 1)])), "member")
        self.assertEqual(self.told(Marks(needs=1000, member=True), some_basket()), "member")

    def test_nothing_ahead_of_needs(self):
        self.assertEqual(self.told(Marks(kind=3, needs=5), Basket([Line(1, 5, 1)])), "nothing")
        self.assertEqual(self.told(Marks(kind=3, needs=5, member=True), Basket([Line(1, 5, 1)], 0, True)), "nothing")

    def test_by_name(self):
        basket = some_basket()
        voucher = Off(5, Marks(member=True))
        told = hindrance(standing=Standing(basket), basket=basket, parents=PARENTS, voucher=voucher)
        self.assertEqual(told, "member")


class KeptApart(unittest.TestCase):
    def test_what_is_handed_in_stays(self):
        for vouchers, basket in made_cases(100):
            parents = list(PARENTS)
            standing = behind(vouchers[:-1], parents, basket)
            handed = (vouchers, parents, basket, standing)
            before = seen(handed)
            about(vouchers[-1], parents, basket, standing)
            hindrance(vouchers[-1], parents, basket, standing)
            self.assertEqual(seen(handed), before)

    def test_two_calls_tell_two_lists(self):
        for marks in (Marks(), Marks(kind=1), Marks(kind=3), Marks(lone=True)):
            basket = Basket([Line(1, 5, 2)])
            standing = Standing(basket)
            one = about(Off(5, marks), PARENTS, basket, standing)
            other = about(Off(5, marks), PARENTS, basket, standing)
            self.assertIsNot(one, other)
            kept = list(other)
            one.append(99)
            self.assertEqual(other, kept)
            self.assertEqual(about(Off(5, marks), PARENTS, basket, standing), kept)
            self.assertEqual(standing.owners, [0, 0])

    def test_later_change_of_the_parents(self):
        basket = Basket([Line(1, 5, 2)])
        parents = [None, 0]
        told = about(Off(5, Marks(kind=0)), parents, basket, Standing(basket))
        parents[1] = None
        self.assertEqual(told, [0, 1])
        self.assertEqual(about(Off(5, Marks(kind=0)), parents, basket, Standing(basket)), [])

    def test_told_standings_may_be_handed_in(self):
        basket = some_basket()
        standing = after(Off(5), PARENTS, basket, Standing(basket))
        self.assertEqual(about(Off(5), PARENTS, basket, standing), [0, 1, 2, 3, 4, 5, 6])
        self.assertIsNone(hindrance(Off(5), PARENTS, basket, standing))

    def test_kinds(self):
        basket = some_basket()
        told = about(Off(5), PARENTS, basket, Standing(basket))
        self.assertEqual(seen(told), seen([0, 1, 2, 3, 4, 5, 6]))
        self.assertIs(type(hindrance(Off(5, Marks(needs=999)), PARENTS, basket, Standing(basket))), str)


if __name__ == "__main__":
    unittest.main()
