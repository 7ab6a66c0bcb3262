"""Doing steps until there are none (point 15)."""

import unittest

from chainkeep.chains import begun, take
from chainkeep.falling import come, fall
from chainkeep.steps import done, quiet, steps_of
from tests.helping import ADD_1, LOG, PUT_1, Chance, faults_of, made_chains, still, three_keepers


def ends_of(chain):
    """All chains without steps that some order of steps leads to."""
    ends, seen, ahead = [], {repr(chain)}, [chain]
    while ahead:
        before = ahead.pop()
        steps = steps_of(before)
        if not steps:
            ends.append(before)
        for step in steps:
            after = done(before, step)
            if repr(after) not in seen:
                seen.add(repr(after))
                ahead.append(after)
    return ends


class QuietTest(unittest.TestCase):
    def test_made_chains(self):
        for chain in made_chains():
            many = len(chain[0]) + (chain[1] is not None)
            self.assertEqual(quiet(chain), still(chain[0][0][0], many))

    def test_by_hand(self):
        chain = take(take(begun(2), PUT_1), ADD_1)
        log = [PUT_1, ADD_1]
        self.assertEqual(quiet(chain), ([(log, 2, [], []), (log, 2, [], [])], None))
        self.assertEqual(quiet(three_keepers()), ([(LOG, 5, [], [])] * 4, None))

    def test_where_there_are_no_steps(self):
        for many in range(1, 10):
            self.assertEqual(quiet(begun(many)), begun(many))
            self.assertEqual(quiet(still(LOG, many)), still(LOG, many))

    def test_no_steps_are_left(self):
        for chain in made_chains():
            told = quiet(chain)
            self.assertEqual(steps_of(told), [])
            self.assertEqual(faults_of(told), [])
            self.assertEqual(quiet(told), told)

    def test_it_is_doing_the_first_step_each_time(self):
        for chain in made_chains():
            told = quiet(chain)
            while steps_of(chain):
                chain = done(chain, steps_of(chain)[0])
            self.assertEqual(told, chain)

    def test_many_deeds_and_nine_keepers(self):
        chain = begun(8)
        for turn in range(1, 101):
            chain = take(chain, (turn % 10, (turn + 9) // 10, "add", "a", turn))
        log = chain[0][0][0]
        self.assertEqual(len(log), 100)
        self.assertEqual(quiet(chain), still(log, 8))
        coming = come(quiet(chain))
        self.assertEqual(quiet(coming), still(log, 9))


class AnyOrderTest(unittest.TestCase):
    def test_each_order_of_few_steps(self):
        chain = ([(LOG[:3], 0, LOG[2:3], []), (LOG[:2], 0, LOG[1:2], [0]), (LOG[:1], 1, [], [0, 1])], [])
        short = (
            take(take(take(begun(3), PUT_1), ADD_1), LOG[2]),
            take(come(quiet(take(begun(2), PUT_1))), ADD_1),
            three_keepers(),
            chain,
            fall(three_keepers(), 1),
            fall(three_keepers(), 2),
        )
        for chain in short:
            self.assertEqual(faults_of(chain), [])
            many = len(chain[0]) + (chain[1] is not None)
            self.assertEqual(ends_of(chain), [still(chain[0][0][0], many)])
            self.assertEqual(ends_of(chain), [quiet(chain)])

    def test_the_last_step_each_time(self):
        for chain in made_chains():
            told = quiet(chain)
            while steps_of(chain):
                chain = done(chain, steps_of(chain)[-1])
            self.assertEqual(chain, told)

    def test_any_step_each_time(self):
        for seed in range(30):
            chance = Chance(seed)
            for chain in made_chains():
                told = quiet(chain)
                while steps_of(chain):
                    chain = done(chain, chance.one_of(steps_of(chain)))
                    self.assertEqual(faults_of(chain), [])
                self.assertEqual(chain, told)


if __name__ == "__main__":
    unittest.main()
