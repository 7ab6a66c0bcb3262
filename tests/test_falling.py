"""Keepers that fall out and new ones that come (points 10 and 11)."""

import unittest

from chainkeep.chains import begun, take
from chainkeep.errors import NoKeeper, OneComing, OnlyKeeper, TooMany
from chainkeep.falling import come, fall
from chainkeep.steps import done, quiet
from tests.helping import ADD_1, HUGE, LOG, PUT_1, faults_of, made_chains, three_keepers


def five_keepers():
    """Each has something under way where it can have: new lists at each call."""
    return (
        [
            (LOG[:], 0, LOG[4:], []),
            (LOG[:4], 1, LOG[3:4], [0, 1]),
            (LOG[:3], 1, LOG[2:3], [1, 1]),
            (LOG[:2], 1, LOG[1:2], []),
            (LOG[:1], 1, [], [1]),
        ],
        [],
    )


def alone(coming):
    """The chain of one keeper with deeds: new lists at each call."""
    return [(LOG[:], 5, [], [])], coming


class FirstFallsTest(unittest.TestCase):
    def test_the_made_ones_are_chains(self):
        self.assertEqual(faults_of(five_keepers()), [])
        self.assertEqual(faults_of(three_keepers()), [])

    def test_of_three(self):
        keepers, coming = three_keepers()
        told = fall(three_keepers(), 0)
        self.assertEqual(told, ([(LOG[:4], 1, LOG[2:4], []), keepers[2]], coming))

    def test_of_five(self):
        keepers, coming = five_keepers()
        told = fall(five_keepers(), 0)
        self.assertEqual(told, ([(LOG[:4], 1, LOG[3:4], [])] + keepers[2:], coming))

    def test_its_deeds_are_lost(self):
        chain = fall(take(take(begun(2), PUT_1), ADD_1), 0)
        self.assertEqual(chain, ([([], 0, [], [])], None))
        # Its asker takes the same turn again.
        self.assertEqual(take(chain, PUT_1), ([([PUT_1], 1, [], [])], None))

    def test_a_new_one_still_comes(self):
        for learnt in range(3):
            chain = ([(LOG[:], 0, LOG[3:], []), (LOG[:3], 3, [], [3])], LOG[:learnt])
            self.assertEqual(fall(chain, 0), ([(LOG[:3], 3, [], [])], LOG[:learnt]))


class LastFallsTest(unittest.TestCase):
    def test_of_three(self):
        keepers, coming = three_keepers()
        told = fall(three_keepers(), 2)
        self.assertEqual(told, ([keepers[0], (LOG[:4], 4, [], [0, 1, 1, 4])], coming))

    def test_of_five(self):
        keepers, coming = five_keepers()
        told = fall(five_keepers(), 4)
        self.assertEqual(told, (keepers[:3] + [(LOG[:2], 2, [], [2])], coming))

    def test_the_same_count_comes_again(self):
        chain = ([(LOG[:], 3, [], []), (LOG[:], 5, [], [4, 5]), (LOG[:], 5, [], [])], [])
        self.assertEqual(faults_of(chain), [])
        self.assertEqual(fall(chain, 2), ([(LOG, 3, [], []), (LOG, 5, [], [4, 5, 5])], []))

    def test_without_deeds(self):
        self.assertEqual(fall(begun(3), 2), ([([], 0, [], []), ([], 0, [], [0])], None))

    def test_a_new_one_still_comes(self):
        for learnt in range(2):
            chain = ([(LOG[:], 1, LOG[2:], []), (LOG[:2], 2, [], [2])], LOG[:learnt])
            chain = fall(chain, 1)
            self.assertEqual(chain, ([(LOG, 5, [], [])], LOG[:learnt]))
            # It has more to learn by this.
            self.assertEqual(quiet(chain), ([(LOG, 5, [], []), (LOG, 5, [], [])], None))


class OneInTheMidstFallsTest(unittest.TestCase):
    def test_of_three(self):
        told = fall(three_keepers(), 1)
        self.assertEqual(told, ([(LOG, 0, LOG[2:], []), (LOG[:2], 2, [], [2])], LOG[:1]))

    def test_of_five(self):
        keepers, _ = five_keepers()
        self.assertEqual(
            fall(five_keepers(), 1),
            ([(LOG, 0, LOG[3:], []), (LOG[:3], 1, LOG[2:3], [1])] + keepers[3:], []),
        )
        self.assertEqual(
            fall(five_keepers(), 2),
            ([keepers[0], (LOG[:4], 1, LOG[2:4], [0, 1]), (LOG[:2], 1, LOG[1:2], [1]), keepers[4]], []),
        )
        self.assertEqual(
            fall(five_keepers(), 3),
            (keepers[:2] + [(LOG[:3], 1, LOG[1:3], [1, 1]), (LOG[:1], 1, [], [1])], []),
        )

    def test_all_that_the_next_one_had_on_its_up(self):
        first, last = (LOG[:], 1, [], []), (LOG[:], 5, [], [2, 3, 3, 5])
        chain = ([first, (LOG[:], 2, [], [1, 2]), last], None)
        self.assertEqual(faults_of(chain), [])
        self.assertEqual(fall(chain, 1), ([first, (LOG, 5, [], [5])], None))

    def test_the_next_one_had_nothing_on_its_up(self):
        chain = ([(LOG[:], 0, [], []), (LOG[:], 5, [], [0, 5]), (LOG[:], 5, [], [])], None)
        self.assertEqual(faults_of(chain), [])
        self.assertEqual(fall(chain, 1), ([(LOG, 0, [], []), (LOG, 5, [], [5])], None))

    def test_nothing_is_missing_behind_it(self):
        chain = ([(LOG[:], 5, [], [])] * 3, None)
        self.assertEqual(fall(chain, 1), ([(LOG, 5, [], []), (LOG, 5, [], [5])], None))

    def test_without_deeds(self):
        empty = ([], 0, [], [])
        for place in range(1, 8):
            keepers = [empty] * 8
            keepers[place] = ([], 0, [], [0])
            self.assertEqual(fall(begun(9), place), (keepers, None))

    def test_the_deeds_come_to_the_next_one_all_the_same(self):
        chain = fall(done(done(take(take(begun(3), PUT_1), ADD_1), ("pass", 0)), ("pass", 0)), 1)
        self.assertEqual(chain, ([([PUT_1, ADD_1], 0, [PUT_1, ADD_1], []), ([], 0, [], [0])], None))
        log = [PUT_1, ADD_1]
        self.assertEqual(quiet(chain), ([(log, 2, [], []), (log, 2, [], [])], None))


class OneOfTwoFallsTest(unittest.TestCase):
    def test_the_first(self):
        chain = ([(LOG[:], 1, LOG[3:], []), (LOG[:3], 3, [], [2, 3])], None)
        self.assertEqual(fall(chain, 0), ([(LOG[:3], 3, [], [])], None))

    def test_the_last(self):
        # The first one tells no count: there is nobody ahead.
        chain = ([(LOG[:], 1, LOG[3:], []), (LOG[:3], 3, [], [2, 3])], None)
        self.assertEqual(fall(chain, 1), ([(LOG, 5, [], [])], None))

    def test_without_deeds(self):
        self.assertEqual(fall(begun(2), 0), begun(1))
        self.assertEqual(fall(begun(2), 1), begun(1))


class NewOneFallsTest(unittest.TestCase):
    def test_nobody_comes_then(self):
        for chain in made_chains() + [five_keepers()]:
            if chain[1] is not None:
                self.assertEqual(fall(chain, len(chain[0])), (chain[0], None))

    def test_beside_the_only_keeper(self):
        for coming in ([], LOG[:1], LOG[:4]):
            self.assertEqual(fall(alone(coming), 1), alone(None))

    def test_one_may_come_again(self):
        chain = come(fall(alone(LOG[:3]), 1))
        self.assertEqual(chain, alone([]))


class FallRefusedTest(unittest.TestCase):
    def test_no_keepers_place(self):
        for chain in made_chains():
            places = len(chain[0]) + (chain[1] is not None)
            for place in (-HUGE, -10, -9, -2, -1, places, places + 1, places + 2, 100, HUGE):
                with self.assertRaises(NoKeeper):
                    fall(chain, place)

    def test_the_only_keeper(self):
        for coming in (None, [], LOG[:1], LOG[:4]):
            with self.assertRaises(OnlyKeeper):
                fall(alone(coming), 0)
        with self.assertRaises(OnlyKeeper):
            fall(begun(1), 0)

    def test_no_keeper_goes_ahead_of_only_keeper(self):
        for place in (-1, 1, 2, HUGE):
            with self.assertRaises(NoKeeper):
                fall(alone(None), place)
            with self.assertRaises(NoKeeper):
                fall(begun(1), place)
        for place in (-1, 2, 3, -HUGE):
            with self.assertRaises(NoKeeper):
                fall(alone(LOG[:1]), place)

    def test_each_keeper_that_is_not_alone_may_fall(self):
        for chain in made_chains() + [five_keepers()]:
            if len(chain[0]) > 1:
                for place in range(len(chain[0])):
                    told = fall(chain, place)
                    self.assertEqual(faults_of(told), [], (chain, place))
                    self.assertEqual(len(told[0]), len(chain[0]) - 1)

    def test_down_to_one(self):
        for place in (0, -1):
            chain = begun(9)
            while len(chain[0]) > 1:
                chain = fall(chain, place % len(chain[0]))
            self.assertEqual(chain, begun(1))
            with self.assertRaises(OnlyKeeper):
                fall(chain, 0)


class ComeTest(unittest.TestCase):
    def test_behind_a_log_with_deeds(self):
        for many in range(1, 9):
            chain = quiet(take(begun(many), PUT_1))
            self.assertEqual(come(chain), (chain[0], []))

    def test_behind_an_empty_log(self):
        for many in range(1, 9):
            self.assertEqual(come(begun(many)), begun(many + 1))

    def test_only_the_last_log_counts(self):
        first, empty = (LOG[:], 0, LOG[:], []), ([], 0, [], [])
        chain = come(([first, empty], None))
        self.assertEqual(chain, ([first, empty, empty], None))
        # The one that was the last hands on what it gets.
        chain = done(chain, ("pass", 0))
        self.assertEqual(chain, ([(LOG, 0, LOG[1:], []), ([PUT_1], 0, [PUT_1], []), empty], None))

    def test_what_is_under_way_stays(self):
        keepers, _ = three_keepers()
        self.assertEqual(come((three_keepers()[0], None)), (keepers, []))
        keepers, _ = five_keepers()
        self.assertEqual(come((five_keepers()[0], None)), (keepers, []))
        waiting = [([], 0, [], []), ([], 0, [], [0])]
        self.assertEqual(come((waiting, None)), (waiting + [([], 0, [], [])], None))

    def test_one_is_coming(self):
        for chain in made_chains() + [five_keepers()]:
            if chain[1] is not None:
                with self.assertRaises(OneComing):
                    come(chain)

    def test_too_many(self):
        for chain in (begun(9), quiet(take(begun(9), PUT_1)), take(begun(9), PUT_1)):
            with self.assertRaises(TooMany):
                come(chain)

    def test_eight_and_one_coming_are_not_too_many(self):
        chain = come(quiet(take(begun(8), PUT_1)))
        with self.assertRaises(OneComing):
            come(chain)
        chain = done(chain, ("learn", 8))
        self.assertEqual(len(chain[0]), 9)
        with self.assertRaises(TooMany):
            come(chain)

    def test_one_coming_goes_ahead_of_too_many(self):
        # Point 6 has no such chain; the order of the refusals holds for it, too.
        for coming in ([], LOG[:1]):
            with self.assertRaises(OneComing):
                come(([(LOG[:], 5, [], [])] * 9, coming))


if __name__ == "__main__":
    unittest.main()
