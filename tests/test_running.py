"""Many doings, one behind the other (point 16)."""

import unittest

from chainkeep.chains import begun, take
from chainkeep.errors import KeepError, TooMany
from chainkeep.falling import come, fall
from chainkeep.running import run
from chainkeep.steps import done, quiet
from tests.helping import ADD_1, ADD_2, HUGE, LOG, PUT_1, Chance, faults_of, still

TAKE_1 = ("take", PUT_1)
TAKE_2 = ("take", ADD_1)


class EachDoingTest(unittest.TestCase):
    def test_none(self):
        for many in range(1, 10):
            self.assertEqual(run(many, []), (begun(many), []))

    def test_take(self):
        self.assertEqual(run(1, [TAKE_1]), (([([PUT_1], 1, [], [])], None), ["done"]))
        self.assertEqual(
            run(2, [TAKE_1, TAKE_2]),
            (([([PUT_1, ADD_1], 0, [PUT_1, ADD_1], []), ([], 0, [], [])], None), ["done", "done"]),
        )

    def test_take_again(self):
        self.assertEqual(run(1, [TAKE_1, TAKE_1, TAKE_1]), (still([PUT_1], 1), ["done"] * 3))

    def test_steps(self):
        chain, outcomes = run(3, [TAKE_1, ("pass", 0), ("pass", 1), ("back", 2)])
        self.assertEqual(
            chain, ([([PUT_1], 0, [], []), ([PUT_1], 1, [], [1]), ([PUT_1], 1, [], [])], None)
        )
        self.assertEqual(outcomes, ["done"] * 4)
        chain, outcomes = run(3, [TAKE_1, ("pass", 0), ("pass", 1), ("back", 2), ("back", 1)])
        self.assertEqual(chain, still([PUT_1], 3))
        self.assertEqual(outcomes, ["done"] * 5)

    def test_come_and_learn(self):
        doings = [TAKE_1, TAKE_2, ("come", 0), ("learn", 1), ("learn", 1)]
        self.assertEqual(run(1, doings[:3]), (([([PUT_1, ADD_1], 2, [], [])], []), ["done"] * 3))
        self.assertEqual(run(1, doings[:4]), (([([PUT_1, ADD_1], 2, [], [])], [PUT_1]), ["done"] * 4))
        self.assertEqual(run(1, doings), (still([PUT_1, ADD_1], 2), ["done"] * 5))
        self.assertEqual(run(1, [("come", 0)]), (begun(2), ["done"]))

    def test_fall(self):
        self.assertEqual(run(3, [("fall", 0)]), (begun(2), ["done"]))
        doings = [TAKE_1, ("pass", 0), ("fall", 0), ("pass", 0), ("fall", 1)]
        self.assertEqual(run(3, doings), (still([PUT_1], 1), ["done"] * 5))
        self.assertEqual(run(1, [TAKE_1, ("come", 0), ("fall", 1)]), (still([PUT_1], 1), ["done"] * 3))

    def test_quiet(self):
        self.assertEqual(run(4, [("quiet", 0)]), (begun(4), ["done"]))
        self.assertEqual(run(4, [TAKE_1, TAKE_2, ("quiet", 0)]), (still([PUT_1, ADD_1], 4), ["done"] * 3))
        self.assertEqual(run(1, [TAKE_1, ("come", 0), ("quiet", 0)]), (still([PUT_1], 2), ["done"] * 3))

    def test_it_is_a_pair_of_a_chain_and_a_list(self):
        told = run(2, [TAKE_1, ("fall", 5)])
        self.assertIs(type(told), tuple)
        self.assertEqual([type(part) for part in told], [tuple, list])
        self.assertEqual([type(part) for part in told[1]], [str, str])


class ManyTest(unittest.TestCase):
    def test_from_one_to_nine(self):
        for many in range(1, 10):
            self.assertEqual(len(run(many, [TAKE_1])[0][0]), many)

    def test_too_many_or_too_few(self):
        for many in (-HUGE, -9, -1, 0, 10, 11, 100, HUGE):
            for doings in ([], [TAKE_1], [("fall", 0)] * 5):
                with self.assertRaises(TooMany):
                    run(many, doings)


class RefusedTest(unittest.TestCase):
    def each(self, many, doings, refused):
        """Check what comes of refused doings, and that the chain stays as it was then."""
        chain, outcomes = run(many, doings)
        for doing, name in refused:
            self.assertEqual(run(many, doings + [doing]), (chain, outcomes + [name]))
        told = run(many, doings + [doing for doing, _ in refused])
        self.assertEqual(told, (chain, outcomes + [name for _, name in refused]))

    def test_take(self):
        self.each(2, [TAKE_1, TAKE_2, ("pass", 0)], [
            (("take", (0, 3, "put", "a", 1)), "BadTurn"),
            (("take", (2, 2, "put", "a", 1)), "BadTurn"),
            (("take", (2, HUGE, "put", "a", HUGE)), "BadTurn"),
            (("take", (0, 1, "put", "a", 6)), "OtherDeed"),
            (("take", (0, 1, "add", "a", 5)), "OtherDeed"),
            (("take", (0, 0, "put", "a", 5)), "BadDeed"),
            (("take", (10, 1, "put", "a", 5)), "BadDeed"),
            (("take", (0, 2, "put", "", 5)), "BadDeed"),
            (("take", (0, 2, "away", "a", 5)), "BadDeed"),
        ])

    def test_take_of_anything(self):
        things = (
            None, True, False, 0, 1, -HUGE, "", "take", "put", (), [], [[]], [None], (True,), ("a", 1),
            list(PUT_1), [PUT_1], (PUT_1,), PUT_1 + (0,), PUT_1[:4], (0, 2, ["put"], "a", 5),
            (0, 2, "put", ("a",), 5), (0, True, "put", "a", 5), (False, 2, "put", "a", 5),
            (0, 2, "put", "a", True), (0, 2, "away", "a", False), ("take", PUT_1), ("pass", 0),
        )
        for many in (1, 2):
            self.each(many, [TAKE_1], [(("take", thing), "BadDeed") for thing in things])

    def test_fall(self):
        self.each(2, [TAKE_1], [(("fall", place), "NoKeeper") for place in (-HUGE, -2, -1, 2, 3, 100, HUGE)])
        self.each(1, [TAKE_1], [(("fall", 0), "OnlyKeeper"), (("fall", 1), "NoKeeper"), (("fall", -1), "NoKeeper")])
        self.each(1, [TAKE_1, ("come", 0)], [(("fall", 0), "OnlyKeeper"), (("fall", 2), "NoKeeper")])

    def test_come(self):
        self.each(1, [TAKE_1, ("come", 0)], [(("come", 0), "OneComing")])
        self.each(8, [TAKE_1, ("quiet", 0), ("come", 0)], [(("come", 0), "OneComing")])
        self.each(9, [TAKE_1], [(("come", 0), "TooMany")])
        self.each(8, [("come", 0)], [(("come", 0), "TooMany")])

    def test_steps(self):
        self.each(3, [TAKE_1, TAKE_2, ("pass", 0), ("pass", 1), ("come", 0)], [
            (("pass", 1), "NoStep"), (("pass", 2), "NoStep"), (("pass", -3), "NoStep"), (("pass", HUGE), "NoStep"),
            (("back", 0), "NoStep"), (("back", 1), "NoStep"), (("back", -1), "NoStep"), (("back", -HUGE), "NoStep"),
            (("learn", 2), "NoStep"), (("learn", 4), "NoStep"), (("learn", 0), "NoStep"), (("learn", -1), "NoStep"),
        ])
        self.each(1, [TAKE_1], [(("learn", 1), "NoStep"), (("pass", 0), "NoStep"), (("back", 0), "NoStep")])

    def test_any_other_pair_counts_as_a_step(self):
        refused = [((word, 0), "NoStep") for word in ("", "Take", "Come", "quiets", "done", "begun", "ask", "a b")]
        refused += [((word, place), "NoStep") for word in ("come", "quiet") for place in (-HUGE, -1, 1, 2, HUGE)]
        for many in (1, 2, 9):
            self.each(many, [TAKE_1], refused)

    def test_what_comes_behind_a_refused_doing_is_done(self):
        chain, outcomes = run(2, [
            ("pass", 0), TAKE_1, ("take", None), ("pass", 0), ("pass", 0), ("fall", 7), ("take", ADD_2),
            ("come", 0), ("come", 0), ("rest", 0), ("back", 1), ("learn", 2), ("fall", 0), ("fall", 0),
            ("fall", 0), TAKE_1, ("take", (0, 1, "put", "a", 6)), ("take", (0, 3, "put", "a", 6)), ("take", ADD_2),
        ])
        self.assertEqual(outcomes, [
            "NoStep", "done", "BadDeed", "done", "NoStep", "NoKeeper", "done",
            "done", "OneComing", "NoStep", "done", "done", "done", "done",
            "OnlyKeeper", "done", "OtherDeed", "BadTurn", "done",
        ])
        self.assertEqual(chain, still([PUT_1, ADD_2], 1))


class OneByOneTest(unittest.TestCase):
    def test_the_same_as_the_functions_called_one_by_one(self):
        for seed in range(20):
            chance = Chance(seed)
            many = chance.below(9) + 1
            chain, doings, outcomes = begun(many), [], []
            for _ in range(150):
                doings.append(chance.doing(chain))
                word, thing = doings[-1]
                try:
                    if word == "take":
                        chain = take(chain, thing)
                    elif word == "fall":
                        chain = fall(chain, thing)
                    elif word == "come" and thing == 0:
                        chain = come(chain)
                    elif word == "quiet" and thing == 0:
                        chain = quiet(chain)
                    else:
                        chain = done(chain, (word, thing))
                    outcomes.append("done")
                except KeepError as refusal:
                    outcomes.append(type(refusal).__name__)
            self.assertEqual(run(many, doings), (chain, outcomes))
            self.assertEqual(faults_of(chain), [])

    def test_each_outcome_comes_in_these_rows(self):
        seen = set()
        for seed in range(20):
            chance = Chance(seed)
            many = chance.below(9) + 1
            doings = []
            for _ in range(60):
                doings.append(chance.doing(run(many, doings)[0]))
            seen.update(run(many, doings)[1])
        self.assertEqual(seen, {
            "done", "BadDeed", "BadTurn", "OtherDeed", "NoStep", "NoKeeper", "OnlyKeeper", "OneComing", "TooMany",
        })

    def test_all_of_a_log(self):
        chain, outcomes = run(9, [("take", deed) for deed in LOG] + [("quiet", 0)])
        self.assertEqual(chain, still(LOG, 9))
        self.assertEqual(outcomes, ["done"] * 6)


if __name__ == "__main__":
    unittest.main()
