"""What can be asked (points 12 and 13)."""

import unittest

from chainkeep.asking import ask, look, told
from chainkeep.chains import begun, take
from chainkeep.errors import BadKey, NoKeeper
from chainkeep.falling import fall
from chainkeep.steps import done, quiet
from tests.helping import ADD_1, HUGE, LOG, PUT_1, made_chains, still, three_keepers

NO_KEYS = (
    None, True, False, 0, 1, HUGE, "", "A", "abcdefghi", "a1", "a ", "a\n", "\u00e4", "a" * 100,
    (), ("a",), [], ["a"], ("a", "b"),
)
# One of each kind of key: put, added to, done once, taken away, and several of these.
DEEDS = [
    (0, 1, "put", "put", 5),
    (1, 1, "add", "add", -3),
    (2, 1, "once", "once", 0),
    (3, 1, "put", "away", 8),
    (3, 2, "away", "away", 0),
    (0, 2, "once", "put", 6),
    (0, 3, "put", "put", 7),
    (1, 2, "add", "add", 4),
    (2, 2, "once", "away", 9),
    (2, 3, "away", "never", 0),
    (4, 1, "once", "once", 3),
]
NUMBERS = {"put": 7, "add": 1, "once": 0, "away": 9, "never": None, "abcdefgh": None, "z": None}
ANSWERS = [None, -3, 0, None, 8, 5, 5, 1, 9, None, 0]


class AskTest(unittest.TestCase):
    def test_each_kind_of_key(self):
        for key, number in NUMBERS.items():
            self.assertEqual(ask(still(DEEDS, 1), key), number)

    def test_after_each_deed(self):
        expected = [None, 5, 5, 5, 5, 5, 5, 7, 7, 7, 7, 7]
        for deeds, number in enumerate(expected):
            self.assertEqual(ask(still(DEEDS[:deeds], 1), "put"), number)
        expected = [None, None, None, None, 8, None, None, None, None, 9, 9, 9]
        for deeds, number in enumerate(expected):
            self.assertEqual(ask(still(DEEDS[:deeds], 1), "away"), number)

    def test_nought_is_a_number(self):
        self.assertEqual(ask(still([(0, 1, "once", "a", 0)], 1), "a"), 0)
        self.assertEqual(ask(still([(0, 1, "put", "a", 0)], 1), "a"), 0)
        self.assertEqual(ask(still([(0, 1, "add", "a", 0)], 1), "a"), 0)

    def test_any_size(self):
        chain = still([(0, 1, "put", "a", HUGE), (0, 2, "add", "a", HUGE)], 1)
        self.assertTrue(ask(chain, "a") == 2 * HUGE)

    def test_without_deeds(self):
        for many in range(1, 10):
            self.assertIsNone(ask(begun(many), "a"))

    def test_only_the_last_log_counts(self):
        chain = take(begun(3), PUT_1)
        self.assertIsNone(ask(chain, "a"))
        chain = done(chain, ("pass", 0))
        self.assertIsNone(ask(chain, "a"))
        chain = done(chain, ("pass", 1))
        self.assertEqual(ask(chain, "a"), 5)
        self.assertEqual(ask(three_keepers(), "a"), 5)
        self.assertEqual(ask(three_keepers(), "b"), -3)
        self.assertEqual(ask(quiet(three_keepers()), "a"), 7)
        self.assertIsNone(ask(quiet(three_keepers()), "b"))

    def test_not_what_a_new_one_has_learnt(self):
        chain = ([(LOG[:], 5, [], [])], LOG[:2])
        self.assertEqual(ask(chain, "a"), 7)
        self.assertIsNone(ask(chain, "b"))

    def test_bad_key(self):
        for chain in made_chains():
            for thing in NO_KEYS:
                with self.assertRaises(BadKey):
                    ask(chain, thing)


class ToldTest(unittest.TestCase):
    def test_each_answer(self):
        for deed, answer in zip(DEEDS, ANSWERS):
            self.assertEqual(told(still(DEEDS, 1), deed[0], deed[1]), ("done", answer))

    def test_the_answer_is_that_of_its_own_place(self):
        # What comes behind a deed changes no answer of it.
        for deeds in range(len(DEEDS) + 1):
            for at, (deed, answer) in enumerate(zip(DEEDS, ANSWERS)):
                expected = ("done", answer) if at < deeds else ("not yet", None)
                self.assertEqual(told(still(DEEDS[:deeds], 1), deed[0], deed[1]), expected)

    def test_not_yet(self):
        for asker, turn in (
            (0, 4), (1, 3), (2, 4), (3, 3), (4, 2), (5, 1), (9, 1), (10, 1), (-1, 1), (0, 0), (0, -1),
            (0, HUGE), (HUGE, 1), (-HUGE, -HUGE),
        ):
            self.assertEqual(told(still(DEEDS, 1), asker, turn), ("not yet", None))

    def test_asker_and_turn_are_not_mixed_up(self):
        chain = still([(1, 1, "add", "a", 1), (1, 2, "add", "a", 1), (1, 3, "add", "a", 1)], 1)
        self.assertEqual(told(chain, 1, 3), ("done", 3))
        self.assertEqual(told(chain, 3, 1), ("not yet", None))
        self.assertEqual(told(chain, 2, 1), ("not yet", None))

    def test_without_deeds(self):
        for many in range(1, 10):
            self.assertEqual(told(begun(many), 0, 1), ("not yet", None))

    def test_only_the_last_log_counts(self):
        chain = take(begun(3), ADD_1)
        self.assertEqual(told(chain, 1, 1), ("not yet", None))
        chain = done(chain, ("pass", 0))
        self.assertEqual(told(chain, 1, 1), ("not yet", None))
        chain = done(chain, ("pass", 1))
        self.assertEqual(told(chain, 1, 1), ("done", -3))

    def test_where_the_last_one_falls(self):
        self.assertEqual(told(three_keepers(), 0, 2), ("not yet", None))
        self.assertEqual(told(fall(three_keepers(), 2), 0, 2), ("done", 7))

    def test_any_size(self):
        chain = still([(0, 1, "put", "a", HUGE), (0, 2, "put", "a", 0)], 1)
        self.assertTrue(told(chain, 0, 2) == ("done", HUGE))


class LookTest(unittest.TestCase):
    def test_one_that_is_sure(self):
        for key, number in NUMBERS.items():
            self.assertEqual(look(still(DEEDS, 1), 0, key), ("sure", number))

    def test_by_the_sure_ones(self):
        # LOG: put a 5, add b -3, add a 2, once a 9, away b.
        expected = (
            (0, ("unsure", None), ("unsure", None)),
            (1, ("unsure", None), ("unsure", None)),
            (2, ("unsure", None), ("unsure", None)),
            (3, ("unsure", None), ("unsure", None)),
            (4, ("sure", 7), ("unsure", None)),
            (5, ("sure", 7), ("sure", None)),
        )
        for sure, of_a, of_b in expected:
            for last in range(sure, 6):
                chain = ([(LOG[:], sure, LOG[last:], []), (LOG[:last], last, [], [last])], None)
                self.assertEqual(look(chain, 0, "a"), of_a)
                self.assertEqual(look(chain, 0, "b"), of_b)
                self.assertEqual(look(chain, 0, "c"), ("sure", None))

    def test_a_key_before_the_sure_ones_end(self):
        log = [(0, 1, "put", "a", 5), (0, 2, "put", "b", 6), (0, 3, "put", "c", 7)]
        chain = ([(log, 1, log[2:], []), (log[:2], 2, [], [2])], None)
        self.assertEqual(look(chain, 0, "a"), ("sure", 5))
        self.assertEqual(look(chain, 0, "b"), ("unsure", None))
        self.assertEqual(look(chain, 0, "c"), ("unsure", None))
        self.assertEqual(look(chain, 1, "b"), ("sure", 6))
        self.assertEqual(look(chain, 1, "c"), ("sure", None))

    def test_a_deed_that_would_change_nothing_is_unsure_too(self):
        for word, value in (("put", 5), ("add", 0), ("once", 9)):
            log = [(0, 1, "put", "a", 5), (0, 2, word, "a", value)]
            chain = ([(log, 1, [], []), (log[:], 2, [], [2])], None)
            self.assertEqual(look(chain, 0, "a"), ("unsure", None))
        log = [(0, 1, "away", "a", 0)]
        self.assertEqual(look(([(log, 0, [], []), (log[:], 1, [], [1])], None), 0, "a"), ("unsure", None))

    def test_a_longer_key_is_another_one(self):
        log = [(0, 1, "put", "ab", 5)]
        chain = ([(log, 0, log[:], []), ([], 0, [], [])], None)
        self.assertEqual(look(chain, 0, "ab"), ("unsure", None))
        self.assertEqual(look(chain, 0, "a"), ("sure", None))
        self.assertEqual(look(chain, 0, "b"), ("sure", None))

    def test_each_place(self):
        chain = three_keepers()
        self.assertEqual([look(chain, place, "a") for place in range(3)], [("unsure", None)] * 2 + [("sure", 5)])
        self.assertEqual([look(chain, place, "b") for place in range(3)], [("unsure", None)] * 2 + [("sure", -3)])
        self.assertEqual([look(chain, place, "c") for place in range(3)], [("sure", None)] * 3)
        chain = ([(LOG[:], 2, [], []), (LOG[:], 4, [], [4]), (LOG[:], 5, [], [5])], None)
        self.assertEqual(
            [look(chain, place, "a") for place in range(3)], [("unsure", None), ("sure", 7), ("sure", 7)]
        )

    def test_no_keeper(self):
        for chain in made_chains():
            many = len(chain[0])
            # The new one is no keeper yet.
            for place in (-HUGE, -many - 1, -many, -1, many, many + 1, 100, HUGE):
                with self.assertRaises(NoKeeper):
                    look(chain, place, "a")

    def test_bad_key(self):
        for chain in made_chains():
            for place in range(len(chain[0])):
                for thing in NO_KEYS:
                    with self.assertRaises(BadKey):
                        look(chain, place, thing)

    def test_no_keeper_goes_ahead_of_bad_key(self):
        for chain in made_chains():
            for place in (-1, len(chain[0]), HUGE):
                for thing in NO_KEYS:
                    with self.assertRaises(NoKeeper):
                        look(chain, place, thing)


if __name__ == "__main__":
    unittest.main()
