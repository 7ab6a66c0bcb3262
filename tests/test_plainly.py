"""Plain doing of a list of deeds (point 4)."""

import itertools
import unittest

from chainkeep.deeds import done_by, plainly
from tests.helping import HUGE, LOG

MANY = [
    (0, 1, "put", "a", 5),
    (9, 1, "once", "a", 8),
    (0, 2, "add", "a", -7),
    (3, 1, "add", "b", 4),
    (3, 2, "away", "a", 0),
    (3, 3, "away", "a", 0),
    (9, 2, "once", "a", 8),
    (0, 3, "put", "b", HUGE),
    (9, 3, "add", "b", 1),
    (9, 4, "once", "abcdefgh", 0),
    (0, 4, "put", "a", 0),
]
STORE = {"a": 0, "b": HUGE + 1, "abcdefgh": 0}
ANSWERS = [None, 5, -2, 4, -2, None, 8, 4, HUGE + 1, 0, 8]


class PlainlyTest(unittest.TestCase):
    def test_no_deeds(self):
        self.assertEqual(plainly([]), ({}, []))

    def test_one_deed(self):
        self.assertEqual(plainly([(0, 1, "put", "a", 5)]), ({"a": 5}, [None]))
        self.assertEqual(plainly([(0, 1, "add", "a", 5)]), ({"a": 5}, [5]))
        self.assertEqual(plainly([(0, 1, "once", "a", 5)]), ({"a": 5}, [5]))
        self.assertEqual(plainly([(0, 1, "away", "a", 0)]), ({}, [None]))

    def test_many_deeds(self):
        self.assertTrue(plainly(MANY) == (STORE, ANSWERS))
        self.assertEqual(plainly(LOG), ({"a": 7}, [None, -3, 7, 7, -3]))

    def test_a_pair_of_a_dict_and_a_list(self):
        for deeds in ([], LOG):
            told = plainly(deeds)
            self.assertIs(type(told), tuple)
            self.assertEqual([type(part) for part in told], [dict, list])

    def test_one_behind_the_other(self):
        some = [(0, 1, word, key, 2) for word in ("put", "add", "once") for key in ("a", "b")]
        some += [(0, 1, "away", "a", 0), (0, 1, "put", "a", -2)]
        for deeds in itertools.product(some, repeat=3):
            store, answers = {}, []
            for deed in deeds:
                store, answer = done_by(store, deed)
                answers.append(answer)
            self.assertEqual(plainly(list(deeds)), (store, answers))

    def test_the_order_matters(self):
        put, add = (0, 1, "put", "a", 5), (1, 1, "add", "a", 2)
        self.assertEqual(plainly([put, add]), ({"a": 7}, [None, 7]))
        self.assertEqual(plainly([add, put]), ({"a": 5}, [2, 2]))

    def test_many_keys(self):
        keys = ["".join(letters) for letters in itertools.product("abcdefghij", repeat=3)]
        deeds = [(0, at + 1, "put", keys[at], at) for at in range(len(keys))]
        store, answers = plainly(deeds)
        self.assertEqual(store, {keys[at]: at for at in range(len(keys))})
        self.assertEqual(answers, [None] * len(keys))

    def test_asked_twice(self):
        for deeds, store, answers in (([], {}, []), (MANY, STORE, ANSWERS)):
            first = plainly(deeds)
            first[0]["a"] = -1
            first[0].pop("b", None)
            first[1].append(-1)
            first[1][0] = -2
            second = plainly(deeds)
            self.assertTrue(second == (store, answers))
            self.assertIsNot(first[0], second[0])
            self.assertIsNot(first[1], second[1])

    def test_the_list_of_deeds_stays(self):
        deeds = list(MANY)
        store, answers = plainly(deeds)
        store["a"] = 7
        answers.clear()
        self.assertTrue(deeds == MANY)


if __name__ == "__main__":
    unittest.main()
