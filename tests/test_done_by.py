"""Doing one deed (point 3)."""

import unittest

from chainkeep.deeds import done_by
from tests.helping import HUGE

VALUES = (0, 1, -1, 7, -12, HUGE, -HUGE)


def deed(word, value=0, key="a"):
    return (4, 1, word, key, value)


class DoneByTest(unittest.TestCase):
    def check(self, store, done, after, answer):
        self.assertTrue(done_by(store, done) == (after, answer), done[2])

    def test_put(self):
        for value in VALUES:
            self.check({}, deed("put", value), {"a": value}, None)
            for had in VALUES:
                self.check({"a": had}, deed("put", value), {"a": value}, had)

    def test_add(self):
        for value in VALUES:
            self.check({}, deed("add", value), {"a": value}, value)
            for had in VALUES:
                self.check({"a": had}, deed("add", value), {"a": had + value}, had + value)

    def test_once(self):
        for value in VALUES:
            self.check({}, deed("once", value), {"a": value}, value)
            for had in VALUES:
                self.check({"a": had}, deed("once", value), {"a": had}, had)

    def test_away(self):
        self.check({}, deed("away"), {}, None)
        for had in VALUES:
            self.check({"a": had}, deed("away"), {}, had)

    def test_nothing_is_kept_where_there_was_nothing(self):
        for word, value in (("put", 2), ("add", 2), ("once", 2), ("away", 0)):
            done_by({}, deed(word, value))
            self.check({}, deed("away"), {}, None)

    def test_a_pair_of_a_dict_and_the_answer(self):
        for word in ("put", "add", "once", "away"):
            told = done_by({"a": 1}, deed(word))
            self.assertIs(type(told), tuple)
            self.assertEqual(len(told), 2)
            self.assertIs(type(told[0]), dict)

    def test_no_answer_is_none_and_not_nought(self):
        self.assertIsNone(done_by({}, deed("put", 3))[1])
        self.assertIsNone(done_by({}, deed("away"))[1])
        self.assertEqual(done_by({"a": 0}, deed("put", 3))[1], 0)
        self.assertEqual(done_by({"a": 0}, deed("away"))[1], 0)
        self.assertEqual(done_by({"a": 0}, deed("once", 3)), ({"a": 0}, 0))

    def test_the_other_keys_keep_theirs(self):
        others = {"b": 0, "aa": -HUGE, "abcdefgh": 8}
        for word, value, kept in (("put", 5, {"a": 5}), ("add", 5, {"a": 6}), ("once", 5, {"a": 1}), ("away", 0, {})):
            after = done_by({"a": 1, **others}, deed(word, value))[0]
            self.assertTrue(after == {**others, **kept}, word)

    def test_a_new_key_leaves_the_others(self):
        for word in ("put", "add", "once"):
            self.assertEqual(done_by({"b": 1}, deed(word, 5))[0], {"a": 5, "b": 1})
        self.assertEqual(done_by({"b": 1}, deed("away"))[0], {"b": 1})

    def test_asker_and_turn_do_not_matter(self):
        for asker in range(10):
            for turn in (1, 2, HUGE):
                self.assertEqual(done_by({"a": 1}, (asker, turn, "add", "a", 2)), ({"a": 3}, 3))

    def test_the_store_handed_in_stays(self):
        for had in ({}, {"a": 1}, {"b": 2}, {"a": 1, "b": 2}):
            for word, value in (("put", 3), ("put", 1), ("add", 3), ("add", 0), ("once", 3), ("away", 0)):
                with self.subTest(had=had, word=word, value=value):
                    store = dict(had)
                    after = done_by(store, deed(word, value))[0]
                    self.assertEqual(list(store.items()), list(had.items()))
                    self.assertIsNot(after, store)
                    after["c"] = 9
                    after.pop("b", None)
                    after["a"] = -1
                    self.assertEqual(store, had)

    def test_each_store_told_is_a_new_one(self):
        store = {"a": 1}
        for word in ("put", "add", "once", "away"):
            first = done_by(store, deed(word))
            kept = (dict(first[0]), first[1])
            first[0]["z"] = 1
            second = done_by(store, deed(word))
            self.assertEqual(second, kept)
            self.assertIsNot(first[0], second[0])


if __name__ == "__main__":
    unittest.main()
