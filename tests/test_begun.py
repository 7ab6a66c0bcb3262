"""The chain of so many keepers without deeds (points 16, 5 and 6)."""

import unittest

from chainkeep.chains import begun
from chainkeep.errors import TooMany
from tests.helping import HUGE, faults_of, lists_in, spoil


class BegunTest(unittest.TestCase):
    def test_one_to_nine(self):
        self.assertEqual(begun(1), ([([], 0, [], [])], None))
        self.assertEqual(begun(2), ([([], 0, [], []), ([], 0, [], [])], None))
        for many in range(1, 10):
            chain = begun(many)
            self.assertEqual(chain, ([([], 0, [], [])] * many, None))
            self.assertEqual(faults_of(chain), [])

    def test_the_kinds_of_a_chain(self):
        for many in range(1, 10):
            chain = begun(many)
            self.assertIs(type(chain), tuple)
            self.assertIs(type(chain[0]), list)
            for keeper in chain[0]:
                self.assertIs(type(keeper), tuple)
                self.assertEqual([type(part) for part in keeper], [list, int, list, list])

    def test_too_many_and_too_few(self):
        for many in (0, 10, -1, 11, -9, 100, -100, HUGE, -HUGE):
            with self.assertRaises(TooMany):
                begun(many)

    def test_no_list_stands_twice(self):
        for many in range(1, 10):
            lists = lists_in(begun(many))
            self.assertEqual(len(lists), 1 + 3 * many)
            self.assertEqual(len({id(one) for one in lists}), len(lists))

    def test_nothing_is_kept(self):
        for many in range(1, 10):
            spoil(begun(many))
            self.assertEqual(begun(many), ([([], 0, [], [])] * many, None))


if __name__ == "__main__":
    unittest.main()
