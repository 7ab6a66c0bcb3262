"""The first keeper takes a deed (point 7)."""

import copy
import unittest

from chainkeep.chains import begun, take
from chainkeep.errors import BadDeed, BadTurn, OtherDeed
from tests.helping import HUGE, LOG, faults_of, lists_in, made_chains, spoil, turns_of

NO_DEEDS = (
    None, True, False, 0, 1, -HUGE, "", "put", [], (), [LOG[0]], (LOG[0],), list(LOG[0]),
    (-1, 1, "put", "a", 5), (10, 1, "put", "a", 5), (True, 1, "put", "a", 5), (None, 1, "put", "a", 5),
    ("0", 1, "put", "a", 5), ([0], 1, "put", "a", 5), ((0,), 1, "put", "a", 5),
    (0, 0, "put", "a", 5), (0, -1, "put", "a", 5), (0, True, "put", "a", 5), (0, None, "put", "a", 5),
    (0, "1", "put", "a", 5), (0, [1], "put", "a", 5), (0, (1,), "put", "a", 5),
    (0, 1, "get", "a", 5), (0, 1, "", "a", 5), (0, 1, True, "a", 5), (0, 1, None, "a", 5),
    (0, 1, 1, "a", 5), (0, 1, ["put"], "a", 5), (0, 1, ("put",), "a", 5),
    (0, 1, "put", "", 5), (0, 1, "put", "abcdefghi", 5), (0, 1, "put", "A", 5), (0, 1, "put", True, 5),
    (0, 1, "put", None, 5), (0, 1, "put", 1, 5), (0, 1, "put", ["a"], 5), (0, 1, "put", ("a",), 5),
    (0, 1, "put", "a", True), (0, 1, "put", "a", None), (0, 1, "put", "a", "5"), (0, 1, "put", "a", [5]),
    (0, 1, "put", "a", (5,)), (0, 1, "away", "a", 1), (0, 1, "away", "a", False),
    (0, 1, "put", "a"), (0, 1, "put", "a", 5, 0),
)


class MadeChainsTest(unittest.TestCase):
    def test_they_are_chains(self):
        for chain in made_chains():
            self.assertEqual(faults_of(chain), [], chain)

    def test_other_things_are_not(self):
        put, add = LOG[:2]
        for chain in (
            ([], None),
            begun(9) + (None,),
            (begun(9)[0] + begun(1)[0], None),
            ([([put], 0, [], [])], None),
            ([([put], 1, [put], [])], None),
            ([([put], 1, [], [1])], None),
            ([([LOG[2]], 1, [], [])], None),
            ([([put], 0, [], []), ([], 0, [], [])], None),
            ([([put, add], 0, [put], []), ([add], 1, [], [1])], None),
            ([([put], 1, [put], []), ([], 0, [], [])], None),
            ([([put], 0, [], []), ([put], 1, [], [])], None),
            ([([put], 0, [], []), ([put], 1, [], [1, 0])], None),
            ([([put], 0, [], []), ([put], 1, [], [2])], None),
            (begun(1)[0], []),
            ([([put], 1, [], [])], [put]),
            ([([put, add], 2, [], [])], [add]),
            ([([put], 1, [], [])] * 9, []),
        ):
            self.assertNotEqual(faults_of(chain), [], chain)


class NextDeedTest(unittest.TestCase):
    def test_one_keeper(self):
        first, second = (0, 1, "put", "a", 5), (0, 2, "add", "a", 1)
        chain = take(begun(1), first)
        self.assertEqual(chain, ([([first], 1, [], [])], None))
        self.assertEqual(take(chain, second), ([([first, second], 2, [], [])], None))

    def test_several_keepers(self):
        first, other, second = (0, 1, "put", "a", 5), (7, 1, "away", "b", 0), (0, 2, "add", "a", 1)
        empty = ([], 0, [], [])
        for many in range(2, 10):
            chain = begun(many)
            taken = []
            for deed in (first, other, second):
                taken.append(deed)
                chain = take(chain, deed)
                self.assertEqual(chain, ([(taken, 0, taken, [])] + [empty] * (many - 1), None))

    def test_with_something_under_way(self):
        for chain in made_chains():
            (log, sure, down, up), rest = chain[0][0], chain[0][1:]
            for asker in range(10):
                deed = (asker, turns_of(chain, asker) + 1, "once", "c", HUGE)
                if rest:
                    first = (log + [deed], sure, down + [deed], up)
                else:
                    first = (log + [deed], len(log) + 1, [], up)
                told = take(chain, deed)
                self.assertTrue(told == ([first] + rest, chain[1]))
                self.assertEqual(faults_of(told), [])

    def test_only_the_first_log_counts(self):
        chain = ([(list(LOG), 0, list(LOG), []), ([], 0, [], [])], None)
        with self.assertRaises(OtherDeed):
            take(chain, (0, 1, "put", "z", 0))
        self.assertEqual(take(chain, (0, 4, "put", "z", 0))[0][0][0][-1], (0, 4, "put", "z", 0))

    def test_askers_do_not_count_for_each_other(self):
        chain = begun(2)
        for turn in range(1, 4):
            for asker in range(10):
                chain = take(chain, (asker, turn, "add", "a", asker))
        self.assertEqual(len(chain[0][0][0]), 30)
        self.assertEqual(faults_of(chain), [])

    def test_the_same_deed_of_another_turn_is_a_new_one(self):
        chain = take(begun(1), (0, 1, "add", "a", 1))
        chain = take(chain, (0, 2, "add", "a", 1))
        chain = take(chain, (1, 1, "add", "a", 1))
        self.assertEqual(chain[0][0][1], 3)

    def test_each_word_with_any_value(self):
        for word, value in (("put", HUGE), ("add", -HUGE), ("once", 0), ("away", 0)):
            deed = (9, 1, word, "abcdefgh", value)
            self.assertTrue(take(begun(1), deed) == ([([deed], 1, [], [])], None))


class AgainTest(unittest.TestCase):
    def test_nothing_changes(self):
        for chain in made_chains():
            for deed in chain[0][0][0]:
                self.assertEqual(take(chain, deed), chain)

    def test_an_equal_deed_that_is_another_object(self):
        chain = take(begun(1), (0, 1, "put", "a", HUGE))
        again = (0, 1, "".join(["pu", "t"]), "a", 10 ** 5000)
        self.assertTrue(take(chain, again) == chain)

    def test_other_deed(self):
        for chain in made_chains():
            for asker, turn, word, key, value in chain[0][0][0]:
                others = [(other, key, 0) for other in ("put", "add", "once", "away") if other != word]
                others += [(word, "zz", value), (word, key + "a", value)]
                if word != "away":
                    others += [(word, key, value + 1), (word, key, -value), (word, key, HUGE)]
                for other in others:
                    with self.assertRaises(OtherDeed):
                        take(chain, (asker, turn) + other)

    def test_only_the_word_is_another_one(self):
        chain = take(begun(1), (0, 1, "put", "a", 0))
        for word in ("add", "once", "away"):
            with self.assertRaises(OtherDeed):
                take(chain, (0, 1, word, "a", 0))

    def test_the_deed_of_another_turn(self):
        chain = take(take(begun(1), (0, 1, "put", "a", 5)), (0, 2, "put", "a", 6))
        with self.assertRaises(OtherDeed):
            take(chain, (0, 1, "put", "a", 6))
        with self.assertRaises(OtherDeed):
            take(chain, (0, 2, "put", "a", 5))


class RefusedTest(unittest.TestCase):
    def test_a_turn_too_far(self):
        for chain in made_chains():
            for asker in range(10):
                there = turns_of(chain, asker)
                for turn in (there + 2, there + 3, there + 100, HUGE):
                    with self.assertRaises(BadTurn):
                        take(chain, (asker, turn, "put", "a", 5))

    def test_what_is_no_deed(self):
        for chain in made_chains():
            for thing in NO_DEEDS:
                with self.assertRaises(BadDeed):
                    take(chain, thing)

    def test_no_deed_is_due_before_the_turn(self):
        for turn in (1, 2, 3, 4, 5, HUGE):
            for thing in (
                (0, turn, "put", "a", True), (0, turn, "get", "a", 5), (0, turn, "put", "A", 5),
                (0, turn, "away", "a", 5), [0, turn, "put", "a", 5], (0, turn, "put", "a"),
            ):
                with self.assertRaises(BadDeed):
                    take(([(list(LOG), 5, [], [])], None), thing)

    def test_truths_are_no_numbers_even_where_the_log_has_one(self):
        for logged, thing in (
            ((1, 1, "put", "a", 1), (True, 1, "put", "a", 1)),
            ((0, 1, "put", "a", 1), (False, 1, "put", "a", 1)),
            ((1, 1, "put", "a", 1), (1, True, "put", "a", 1)),
            ((1, 1, "put", "a", 1), (1, 1, "put", "a", True)),
            ((1, 1, "away", "a", 0), (1, 1, "away", "a", False)),
        ):
            with self.assertRaises(BadDeed):
                take(take(begun(1), logged), thing)

    def test_a_refusal_changes_nothing(self):
        for chain in made_chains():
            kept = copy.deepcopy(chain)
            for thing in (None, (0, 9, "put", "a", 5), (0, 1, "put", "z", 5), (9, 2, "put", "z", 5)):
                try:
                    take(chain, thing)
                except (BadDeed, BadTurn, OtherDeed):
                    pass
            self.assertEqual(chain, kept)


class NewListsTest(unittest.TestCase):
    def each_take(self):
        """Chains, each with a deed that comes new to it and with one that was sent again."""
        for number in range(len(made_chains())):
            chain = made_chains()[number]
            yield chain, (0, turns_of(chain, 0) + 1, "put", "c", 1)
        for number in range(len(made_chains())):
            chain = made_chains()[number]
            if chain[0][0][0]:
                yield chain, chain[0][0][0][0]

    def test_the_chain_handed_in_stays(self):
        for chain, deed in self.each_take():
            kept = copy.deepcopy(chain)
            told = take(chain, deed)
            self.assertEqual(chain, kept)
            spoil(told)
            self.assertEqual(chain, kept)

    def test_what_was_told_stays_when_what_was_handed_in_is_changed(self):
        for chain, deed in self.each_take():
            told = take(chain, deed)
            kept = copy.deepcopy(told)
            spoil(chain)
            self.assertEqual(told, kept)

    def test_no_list_stands_twice_or_in_both(self):
        for chain, deed in self.each_take():
            lists = lists_in(chain) + lists_in(take(chain, deed))
            self.assertEqual(len({id(one) for one in lists}), len(lists))

    def test_the_kinds_of_a_chain(self):
        for chain, deed in self.each_take():
            told = take(chain, deed)
            self.assertIs(type(told), tuple)
            self.assertEqual(len(told), 2)
            self.assertIs(type(told[0]), list)
            for keeper in told[0]:
                self.assertIs(type(keeper), tuple)
                self.assertEqual([type(part) for part in keeper], [list, int, list, list])

    def test_nothing_is_kept_between_calls(self):
        for chain, deed in self.each_take():
            first = take(chain, deed)
            kept = copy.deepcopy(first)
            spoil(first)
            self.assertEqual(take(chain, deed), kept)


if __name__ == "__main__":
    unittest.main()
