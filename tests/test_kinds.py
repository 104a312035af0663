"""[4] under, and what [1] and [2] say of it."""

import unittest

from voucherstack.kinds import under

# Two trees: 0 over 1 and 2, 1 over 4, 4 over 6; and 3 over 5.
PARENTS = [None, 0, 0, None, 1, 3, 4]
UNDER = {0: [0], 1: [1, 0], 2: [2, 0], 3: [3], 4: [4, 1, 0], 5: [5, 3], 6: [6, 4, 1, 0]}
CHAIN = [None] + list(range(19))


class Under(unittest.TestCase):
    def test_each_pair(self):
        for one in range(len(PARENTS)):
            for other in range(len(PARENTS)):
                self.assertIs(under(PARENTS, one, other), other in UNDER[one], (one, other))

    def test_by_name(self):
        self.assertIs(under(parents=PARENTS, one=6, other=0), True)
        self.assertIs(under(parents=PARENTS, one=0, other=6), False)

    def test_itself(self):
        self.assertIs(under([None], 0, 0), True)
        self.assertIs(under(PARENTS, 6, 6), True)

    def test_its_parent(self):
        self.assertIs(under(PARENTS, 1, 0), True)
        self.assertIs(under(PARENTS, 5, 3), True)

    def test_many_steps(self):
        self.assertIs(under(PARENTS, 6, 0), True)
        self.assertIs(under(CHAIN, 19, 0), True)
        self.assertIs(under(CHAIN, 19, 1), True)

    def test_parent_under_its_child(self):
        self.assertIs(under(PARENTS, 0, 1), False)
        self.assertIs(under(CHAIN, 0, 19), False)
        self.assertIs(under(CHAIN, 18, 19), False)

    def test_other_tree(self):
        self.assertIs(under(PARENTS, 6, 3), False)
        self.assertIs(under(PARENTS, 5, 0), False)
        self.assertIs(under([None, None], 1, 0), False)

    def test_sisters(self):
        self.assertIs(under(PARENTS, 1, 2), False)
        self.assertIs(under(PARENTS, 2, 1), False)

    def test_somewhat_more_than_20_kinds(self):
        self.assertIs(under([None] + list(range(24)), 24, 0), True)

    def test_handed_list_stays(self):
        parents = list(PARENTS)
        for one in range(len(parents)):
            for other in range(len(parents)):
                under(parents, one, other)
        self.assertEqual(parents, PARENTS)

    def test_later_change_of_the_parents(self):
        parents = [None, 0]
        self.assertIs(under(parents, 1, 0), True)
        parents[1] = None
        self.assertIs(under(parents, 1, 0), False)
        self.assertIs(under([None, 0], 1, 0), True)


if __name__ == "__main__":
    unittest.main()
