"""[3] dealt, and what [1] and [2] say of it."""

import unittest

from voucherstack.coins import dealt

MOST = 10 ** 12


def by_formula(cut, weights):
    """The words of [3], part by part, with each sum taken anew."""
    s = sum(weights)
    parts = []
    for place in range(len(weights)):
        a = sum(weights[:place])
        b = sum(weights[:place + 1])
        parts.append(cut * b // s - cut * a // s if s else 0)
    return parts


LISTS = [
    [],
    [0],
    [1],
    [MOST],
    [0, 0, 0],
    [0, 1, 0],
    [5, 3, 2],
    [0, 7, 0, 0, 9, 0],
    [1, 1, 1, 1, 1, 1, 1],
    [100, 1, 1, 1],
    [1, 1, 1, 100],
    [MOST, 0, 1, MOST, 999999999989, 3],
    [MOST] * 60,
    [1] * 60,
    list(range(60)),
    [(place * 7919) % 101 for place in range(60)],
    [MOST - place * place * 12345677 for place in range(60)],
]


def some_cuts(weights):
    s = sum(weights)
    return sorted({cut for cut in (0, 1, 2, s // 3, s // 2, s - 2, s - 1, s) if 0 <= cut <= s})


class Dealt(unittest.TestCase):
    def test_ordinary(self):
        self.assertEqual(dealt(10, [1, 1, 1]), [3, 3, 4])
        self.assertEqual(dealt(5, [5, 3, 2]), [2, 2, 1])
        self.assertEqual(dealt(7, [10, 20, 30]), [1, 2, 4])
        self.assertEqual(dealt(2, [1, 1, 1]), [0, 1, 1])

    def test_order_of_weights_counts(self):
        self.assertEqual(dealt(1, [3, 1]), [0, 1])
        self.assertEqual(dealt(1, [1, 3]), [0, 1])
        self.assertEqual(dealt(3, [3, 1]), [2, 1])
        self.assertEqual(dealt(3, [1, 3]), [0, 3])

    def test_by_name(self):
        self.assertEqual(dealt(cut=5, weights=[5, 3, 2]), [2, 2, 1])

    def test_formula(self):
        for weights in LISTS:
            for cut in some_cuts(weights):
                self.assertEqual(dealt(cut, list(weights)), by_formula(cut, weights), (cut, weights))

    def test_formula_for_each_cut_of_small_lists(self):
        for code in range(4 ** 4):
            weights = [code // 4 ** place % 4 for place in range(4)]
            for cut in range(sum(weights) + 1):
                self.assertEqual(dealt(cut, weights), by_formula(cut, weights), (cut, weights))

    def test_parts_are_the_cut_and_in_bounds(self):
        for weights in LISTS:
            for cut in some_cuts(weights):
                parts = dealt(cut, list(weights))
                self.assertEqual(len(parts), len(weights))
                self.assertEqual(sum(parts), cut)
                for part, weight in zip(parts, weights):
                    self.assertTrue(0 <= part <= weight, (cut, weights))

    def test_no_weights(self):
        self.assertEqual(dealt(0, []), [])

    def test_weights_all_0(self):
        self.assertEqual(dealt(0, [0]), [0])
        self.assertEqual(dealt(0, [0, 0, 0]), [0, 0, 0])
        self.assertEqual(dealt(0, [0] * 60), [0] * 60)

    def test_weight_of_0_among_others(self):
        self.assertEqual(dealt(4, [0, 3, 0, 3, 0]), [0, 2, 0, 2, 0])
        self.assertEqual(dealt(1, [0, 3, 0, 3, 0]), [0, 0, 0, 1, 0])

    def test_cut_of_0(self):
        self.assertEqual(dealt(0, [5, 3, 2]), [0, 0, 0])

    def test_cut_of_1(self):
        self.assertEqual(dealt(1, [5, 3, 2]), [0, 0, 1])
        self.assertEqual(dealt(1, [2, 0, 0]), [1, 0, 0])

    def test_cut_of_one_less_than_the_sum(self):
        self.assertEqual(dealt(9, [5, 3, 2]), [4, 3, 2])

    def test_cut_of_the_whole_sum(self):
        self.assertEqual(dealt(10, [5, 3, 2]), [5, 3, 2])

    def test_largest_weights(self):
        self.assertEqual(dealt(MOST, [MOST, MOST]), [MOST // 2, MOST // 2])
        self.assertEqual(dealt(60 * MOST, [MOST] * 60), [MOST] * 60)
        self.assertEqual(dealt(60 * MOST - 1, [MOST] * 60), [MOST - 1] + [MOST] * 59)
        self.assertEqual(dealt(1, [MOST] * 60), [0] * 59 + [1])

    def test_60_weights(self):
        self.assertEqual(dealt(30, [1] * 60), [0, 1] * 30)

    def test_somewhat_more_than_60_is_not_refused(self):
        self.assertEqual(dealt(61, [1] * 61), [1] * 61)

    def test_kinds(self):
        for parts in (dealt(0, []), dealt(0, [0, 0]), dealt(3, [2, 2])):
            self.assertIs(type(parts), list)
            for part in parts:
                self.assertIs(type(part), int)


class DealtKeepsToItself(unittest.TestCase):
    def test_handed_list_stays(self):
        for weights in ([], [0, 0], [5, 3, 2], [3, 0, 1]):
            kept = list(weights)
            dealt(sum(weights), weights)
            self.assertEqual(weights, kept)

    def test_told_is_not_the_handed_list(self):
        for weights in ([], [0, 0], [5, 3, 2]):
            self.assertIsNot(dealt(sum(weights), weights), weights)

    def test_two_calls_tell_two_lists(self):
        for cut, weights in ((0, []), (0, [0, 0]), (5, [5, 3, 2]), (10, [5, 3, 2])):
            one = dealt(cut, weights)
            other = dealt(cut, weights)
            self.assertIsNot(one, other)
            kept = list(other)
            one.append(99)
            self.assertEqual(other, kept)
            self.assertEqual(dealt(cut, weights), kept)

    def test_later_change_of_the_weights(self):
        weights = [5, 3, 2]
        parts = dealt(10, weights)
        weights[0] = 77
        weights.append(1)
        self.assertEqual(parts, [5, 3, 2])

    def test_told_may_be_handed_in_again(self):
        parts = dealt(5, [5, 3, 2])
        self.assertEqual(dealt(3, parts), by_formula(3, [2, 2, 1]))


if __name__ == "__main__":
    unittest.main()
