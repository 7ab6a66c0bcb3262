"""Steps: which there are, and what each does (points 8 and 9)."""

import unittest

from chainkeep.chains import begun, take
from chainkeep.errors import NoStep
from chainkeep.steps import done, steps_of
from tests.helping import ADD_1, HUGE, LOG, PUT_1, faults_of, made_chains, three_keepers

# In the order of made_chains; those without deeds, behind these, have no steps.
MADE_STEPS = (
    [],
    [("learn", 1)],
    [("learn", 1)],
    [("pass", 0)],
    [("pass", 0), ("back", 1), ("learn", 2)],
    [("back", 1), ("learn", 2)],
    [("pass", 0), ("pass", 1), ("back", 1), ("back", 2), ("learn", 3)],
    [("pass", 0), ("back", 8)],
)
WORDS = ("pass", "back", "learn", "", "Pass", "passes", "pas", "take", "fall", "come", "quiet", "down", "up")


def nine_keepers():
    """Each has something under way where it can have: new lists at each call."""
    keepers = [(LOG[:], 0, [], [])]
    keepers += [(LOG[:], 1, [], [0, 1]) for _ in range(6)]
    keepers += [(LOG[:], 1, LOG[2:], [1]), (LOG[:2], 2, [], [1, 2])]
    return keepers, None


class StepsOfTest(unittest.TestCase):
    def test_made_chains(self):
        made = made_chains()
        for number, chain in enumerate(made):
            steps = MADE_STEPS[number] if number < len(MADE_STEPS) else []
            self.assertEqual(steps_of(chain), steps, chain)

    def test_no_steps_without_deeds(self):
        for many in range(1, 10):
            self.assertEqual(steps_of(begun(many)), [])

    def test_a_deed_that_was_taken(self):
        self.assertEqual(steps_of(take(begun(1), PUT_1)), [])
        for many in range(2, 10):
            self.assertEqual(steps_of(take(begun(many), PUT_1)), [("pass", 0)])

    def test_all_downs_stand_ahead_of_all_ups(self):
        chain = (
            [
                (LOG[:], 0, LOG[4:], []),
                (LOG[:4], 0, LOG[3:4], [0]),
                (LOG[:3], 1, LOG[2:3], [0, 1]),
                (LOG[:2], 2, [], [2]),
            ],
            [PUT_1],
        )
        self.assertEqual(faults_of(chain), [])
        self.assertEqual(
            steps_of(chain),
            [("pass", 0), ("pass", 1), ("pass", 2), ("back", 1), ("back", 2), ("back", 3), ("learn", 4)],
        )

    def test_only_those_with_something_under_way(self):
        chain = (
            [
                (LOG[:], 0, [], []),
                (LOG[:], 0, LOG[3:], []),
                (LOG[:3], 3, [], [1, 3]),
                (LOG[:3], 3, [], []),
            ],
            None,
        )
        self.assertEqual(faults_of(chain), [])
        self.assertEqual(steps_of(chain), [("pass", 1), ("back", 2)])

    def test_nine_keepers(self):
        self.assertEqual(faults_of(nine_keepers()), [])
        self.assertEqual(steps_of(nine_keepers()), [("pass", 7)] + [("back", place) for place in range(1, 9)])

    def test_it_is_a_list_of_tuples(self):
        steps = steps_of(three_keepers())
        self.assertIs(type(steps), list)
        for step in steps:
            self.assertIs(type(step), tuple)
            self.assertEqual([type(part) for part in step], [str, int])


class PassTest(unittest.TestCase):
    def test_to_one_in_the_midst(self):
        keepers, coming = three_keepers()
        self.assertEqual(
            done(three_keepers(), ("pass", 0)),
            ([(LOG, 0, [], []), (LOG, 1, LOG[2:], [0, 1, 1]), keepers[2]], coming),
        )

    def test_to_the_last_one(self):
        keepers, coming = three_keepers()
        self.assertEqual(
            done(three_keepers(), ("pass", 1)),
            ([keepers[0], (LOG[:4], 1, LOG[3:4], [0, 1, 1]), (LOG[:3], 3, [], [2, 3])], coming),
        )

    def test_to_the_last_of_two(self):
        chain = ([(LOG[:], 0, LOG[:], []), ([], 0, [], [])], None)
        chain = done(chain, ("pass", 0))
        self.assertEqual(chain, ([(LOG, 0, LOG[1:], []), ([PUT_1], 1, [], [1])], None))
        chain = done(chain, ("pass", 0))
        self.assertEqual(chain, ([(LOG, 0, LOG[2:], []), ([PUT_1, ADD_1], 2, [], [1, 2])], None))

    def test_the_first_deed_goes_first(self):
        chain = begun(3)
        for deed in LOG:
            chain = take(chain, deed)
        for deeds in range(1, 6):
            chain = done(chain, ("pass", 0))
            self.assertEqual(
                chain,
                ([(LOG, 0, LOG[deeds:], []), (LOG[:deeds], 0, LOG[:deeds], []), ([], 0, [], [])], None),
            )

    def test_to_the_last_of_nine(self):
        keepers, _ = nine_keepers()
        told = done(nine_keepers(), ("pass", 7))
        self.assertEqual(told, (keepers[:7] + [(LOG, 1, LOG[3:], [1]), (LOG[:3], 3, [], [1, 2, 3])], None))


class BackTest(unittest.TestCase):
    def test_from_the_second_to_the_first(self):
        keepers, coming = three_keepers()
        chain = three_keepers()
        for sure, up in ((0, [1, 1]), (1, [1]), (1, [])):
            chain = done(chain, ("back", 1))
            self.assertEqual(chain, ([(LOG, sure, LOG[4:], []), (LOG[:4], 1, LOG[2:4], up), keepers[2]], coming))

    def test_from_further_behind(self):
        keepers, coming = three_keepers()
        self.assertEqual(
            done(three_keepers(), ("back", 2)),
            ([keepers[0], (LOG[:4], 2, LOG[2:4], [0, 1, 1, 2]), (LOG[:2], 2, [], [])], coming),
        )

    def test_from_the_last_of_nine(self):
        keepers, _ = nine_keepers()
        told = done(nine_keepers(), ("back", 8))
        self.assertEqual(told, (keepers[:7] + [(LOG, 1, LOG[2:], [1, 1]), (LOG[:2], 2, [], [2])], None))
        told = done(told, ("back", 8))
        self.assertEqual(told, (keepers[:7] + [(LOG, 2, LOG[2:], [1, 1, 2]), (LOG[:2], 2, [], [])], None))

    def test_from_each_in_the_midst_of_nine(self):
        for place in range(2, 7):
            keepers, _ = nine_keepers()
            keepers[place - 1] = (LOG, 1, [], [0, 1, 1])
            keepers[place] = (LOG, 1, [], [1])
            self.assertEqual(done(nine_keepers(), ("back", place)), (keepers, None))

    def test_a_count_below_the_first_ones_own(self):
        chain = ([(LOG[:], 2, [], []), (LOG[:], 5, [], [1, 5])], None)
        self.assertEqual(faults_of(chain), [])
        chain = done(chain, ("back", 1))
        self.assertEqual(chain, ([(LOG, 2, [], []), (LOG, 5, [], [5])], None))
        self.assertEqual(done(chain, ("back", 1)), ([(LOG, 5, [], []), (LOG, 5, [], [])], None))

    def test_a_count_below_ones_own_in_the_midst(self):
        first = (LOG[:], 3, [], [])
        chain = ([first, (LOG[:], 3, [], []), (LOG[:], 5, [], [2, 5])], None)
        self.assertEqual(faults_of(chain), [])
        chain = done(chain, ("back", 2))
        self.assertEqual(chain, ([first, (LOG, 3, [], [3]), (LOG, 5, [], [5])], None))
        self.assertEqual(
            done(chain, ("back", 2)), ([first, (LOG, 5, [], [3, 5]), (LOG, 5, [], [])], None)
        )


class LearnTest(unittest.TestCase):
    def test_one_more_deed(self):
        for learnt in range(4):
            chain = ([(LOG[:], 5, [], [])], LOG[:learnt])
            self.assertEqual(done(chain, ("learn", 1)), ([(LOG, 5, [], [])], LOG[:learnt + 1]))

    def test_the_last_deed(self):
        chain = ([(LOG[:], 5, [], [])], LOG[:4])
        self.assertEqual(done(chain, ("learn", 1)), ([(LOG, 5, [], []), (LOG, 5, [], [])], None))

    def test_the_only_deed(self):
        chain = ([([PUT_1], 1, [], [])], [])
        self.assertEqual(done(chain, ("learn", 1)), ([([PUT_1], 1, [], []), ([PUT_1], 1, [], [])], None))

    def test_what_is_under_way_stays(self):
        keepers, _ = three_keepers()
        self.assertEqual(done(three_keepers(), ("learn", 3)), (keepers + [(LOG[:2], 2, [], [])], None))

    def test_it_learns_of_the_last_one(self):
        keepers = [(LOG[:], 0, LOG[3:], []), (LOG[:3], 3, [], [1, 3])]
        chain = (keepers, [])
        for learnt in (1, 2):
            chain = done(chain, ("learn", 2))
            self.assertEqual(chain, (keepers, LOG[:learnt]))
        chain = done(chain, ("learn", 2))
        self.assertEqual(chain, (keepers + [(LOG[:3], 3, [], [])], None))
        # The new one is the last: what comes to the one ahead of it goes on to it.
        chain = done(chain, ("pass", 0))
        self.assertEqual(
            chain,
            ([(LOG, 0, LOG[4:], []), (LOG[:4], 3, LOG[3:4], [1, 3]), (LOG[:3], 3, [], [])], None),
        )

    def test_the_ninth_keeper(self):
        keepers = [([PUT_1], 1, [], []) for _ in range(8)]
        self.assertEqual(done((keepers, []), ("learn", 8)), (keepers + [([PUT_1], 1, [], [])], None))

    def test_deeds_come_while_one_learns(self):
        chain = done(([([PUT_1, ADD_1], 2, [], [])], []), ("learn", 1))
        chain = done(take(chain, LOG[2]), ("learn", 1))
        self.assertEqual(chain, ([(LOG[:3], 3, [], [])], LOG[:2]))
        self.assertEqual(done(chain, ("learn", 1)), ([(LOG[:3], 3, [], [])] * 2, None))


class NoStepTest(unittest.TestCase):
    def test_all_that_steps_of_does_not_tell(self):
        for chain in made_chains() + [nine_keepers()]:
            steps = steps_of(chain)
            for word in WORDS:
                for place in [-HUGE, HUGE] + list(range(-11, 12)):
                    if (word, place) not in steps:
                        with self.assertRaises(NoStep):
                            done(chain, (word, place))

    def test_places_that_count_from_behind(self):
        for step in (("pass", -2), ("pass", -3), ("back", -1), ("back", -2), ("learn", -1), ("learn", 0)):
            with self.assertRaises(NoStep):
                done(three_keepers(), step)

    def test_nothing_is_under_way_there(self):
        for step in (("pass", 2), ("pass", 3), ("back", 0), ("back", 3), ("learn", 2), ("learn", 4)):
            with self.assertRaises(NoStep):
                done(three_keepers(), step)

    def test_nobody_comes(self):
        for chain, step in (
            (begun(1), ("learn", 1)),
            (([(LOG[:], 5, [], [])], None), ("learn", 1)),
            (([(LOG[:], 5, [], [])] * 9, None), ("learn", 9)),
        ):
            with self.assertRaises(NoStep):
                done(chain, step)

    def test_each_step_that_is_told_can_be_done(self):
        for chain in made_chains() + [nine_keepers()]:
            for step in steps_of(chain):
                told = done(chain, step)
                self.assertEqual(faults_of(told), [])
                self.assertNotEqual(told, chain)


if __name__ == "__main__":
    unittest.main()
