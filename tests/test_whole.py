"""What holds over the whole program, whatever is done (points 1, 6, 14, 15)."""

import copy
import unittest

from chainkeep.asking import ask, look, told
from chainkeep.chains import begun, take
from chainkeep.errors import KeepError
from chainkeep.falling import come, fall
from chainkeep.running import run
from chainkeep.steps import done, quiet, steps_of
from tests.helping import LOG, Chance, faults_of, lists_in, made_chains, spoil, still, turns_of

KEYS = ("a", "b", "c", "d")
ROWS = 40
LENGTH = 120


def rows():
    """Long rows of doings: how many keepers each begins with, and its doings."""
    for seed in range(ROWS):
        chance = Chance(seed)
        many = seed % 9 + 1
        chain, doings = begun(many), []
        for _ in range(LENGTH):
            doings.append(chance.doing(chain))
            chain = behind(chain, doings[-1])
        yield many, doings


def behind(chain, doing):
    """The chain behind one doing; the same one where it is refused."""
    word, thing = doing
    try:
        if word == "take":
            return take(chain, thing)
        if word == "fall":
            return fall(chain, thing)
        if word in ("come", "quiet") and thing == 0:
            return come(chain) if word == "come" else quiet(chain)
        return done(chain, doing)
    except KeepError:
        return chain


class OnePlainKeeper:
    """Does deeds by itself: point 3, written once more and in another way."""

    def __init__(self):
        self.numbers = dict.fromkeys(KEYS)
        self.answers = {}
        self.order = []

    def do(self, deed):
        asker, turn, word, key, value = deed
        had = self.numbers[key]
        now = {
            "put": value, "add": (had or 0) + value, "once": value if had is None else had, "away": None,
        }[word]
        self.numbers[key] = now
        self.answers[(asker, turn)] = had if word in ("put", "away") else now
        self.order.append(deed)


class LikeOneKeeper:
    """Checks that a chain answers like one plain keeper, behind each of its doings."""

    def __init__(self, test, chain):
        self.test = test
        self.plain = OnePlainKeeper()
        self.taken = {}
        self.check(chain)

    def check(self, chain):
        test, plain = self.test, self.plain
        test.assertEqual(faults_of(chain), [])
        first_log, last_log = chain[0][0][0], chain[0][-1][0]
        test.assertEqual(last_log[:len(plain.order)], plain.order)
        # A deed that is not lost stands behind all that was told as done ahead of it.
        self.taken = {deed: self.taken.get(deed, len(plain.order)) for deed in first_log}
        for deed in last_log[len(plain.order):]:
            test.assertNotIn(deed[:2], plain.answers)
            test.assertGreaterEqual(len(plain.order), self.taken[deed])
            plain.do(deed)
        for (asker, turn), answer in plain.answers.items():
            test.assertEqual(told(chain, asker, turn), ("done", answer))
        for asker, turn, _, _, _ in first_log[len(last_log):]:
            test.assertEqual(told(chain, asker, turn), ("not yet", None))
        for key in KEYS:
            test.assertEqual(ask(chain, key), plain.numbers[key])
            for place, (log, sure, _, _) in enumerate(chain[0]):
                unsure = key in [deed[3] for deed in log[sure:]]
                expected = ("unsure", None) if unsure else ("sure", plain.numbers[key])
                test.assertEqual(look(chain, place, key), expected)


class LongRowsTest(unittest.TestCase):
    def test_the_chain_answers_like_one_keeper(self):
        for many, doings in rows():
            chain = begun(many)
            like_one = LikeOneKeeper(self, chain)
            for doing in doings:
                chain = behind(chain, doing)
                like_one.check(chain)

    def test_each_beginning_of_a_row_is_run_alike(self):
        for many, doings in rows():
            outcomes = run(many, doings)[1]
            chain = begun(many)
            for at, doing in enumerate(doings):
                chain = behind(chain, doing)
                if at % 10 == 0:
                    self.assertEqual(run(many, doings[:at + 1]), (chain, outcomes[:at + 1]))

    def test_quiet_behind_each_doing(self):
        for many, doings in rows():
            chain = begun(many)
            for doing in doings:
                chain = behind(chain, doing)
                places = len(chain[0]) + (chain[1] is not None)
                self.assertEqual(quiet(chain), still(chain[0][0][0], places))

    def test_no_deed_told_as_done_is_lost_as_long_as_one_keeper_stays(self):
        for many, doings in rows():
            chain = run(many, doings)[0]
            for stays in range(len(chain[0])):
                like_one = LikeOneKeeper(self, chain)
                left = chain
                for place in reversed(range(len(chain[0]))):
                    if place != stays:
                        left = fall(left, place)
                        like_one.check(left)
                self.assertEqual(len(left[0]), 1)
                self.assertEqual(left[0][0][0], chain[0][stays][0])

    def test_the_rows_have_all_kinds_of_doings(self):
        outcomes, sizes, lengths = set(), set(), []
        for many, doings in rows():
            chain = begun(many)
            for doing, outcome in zip(doings, run(many, doings)[1]):
                outcomes.add((doing[0], outcome))
                chain = behind(chain, doing)
                sizes.add(len(chain[0]))
            lengths.append(len(chain[0][0][0]))
        for expected in (
            ("take", "done"), ("take", "BadDeed"), ("take", "BadTurn"), ("take", "OtherDeed"),
            ("fall", "done"), ("fall", "NoKeeper"), ("fall", "OnlyKeeper"), ("quiet", "done"),
            ("come", "done"), ("come", "OneComing"), ("come", "TooMany"), ("come", "NoStep"),
            ("pass", "done"), ("back", "done"), ("learn", "done"), ("pass", "NoStep"), ("rest", "NoStep"),
        ):
            self.assertIn(expected, outcomes)
        self.assertEqual(sizes, set(range(1, 10)))
        self.assertGreater(max(lengths), 20)


class EachShortRowTest(unittest.TestCase):
    DEEDS = ((0, "add", "a", 2), (1, "once", "a", 5))

    def doings(self, chain):
        """All that can be done with a small chain."""
        doings = steps_of(chain) + [("come", 0)] * (len(chain[0]) < 3)
        doings += [("fall", place) for place in range(len(chain[0]) + 1)]
        for asker, word, key, value in self.DEEDS:
            if len(chain[0][0][0]) < 3:
                doings.append(("take", (asker, turns_of(chain, asker) + 1, word, key, value)))
        return doings

    def test_what_holds_behind_each_short_row(self):
        ahead = {repr(begun(many)): begun(many) for many in (1, 2, 3)}
        seen = set(ahead)
        for _ in range(12):
            after = {}
            for before in ahead.values():
                for doing in self.doings(before):
                    chain = behind(before, doing)
                    if repr(chain) not in seen:
                        seen.add(repr(chain))
                        after[repr(chain)] = chain
                        like_one = LikeOneKeeper(self, before)
                        like_one.check(chain)
                        places = len(chain[0]) + (chain[1] is not None)
                        self.assertEqual(quiet(chain), still(chain[0][0][0], places))
            ahead = after
        self.assertGreater(len(seen), 1000)


class NewListsTest(unittest.TestCase):
    def chains(self):
        """Chains by hand, and some of each row."""
        chains = made_chains()
        for many, doings in rows():
            for length in (15, 40, 77):
                chains.append(run(many, doings[:length])[0])
        return chains

    def calls(self, chain):
        """Each function that is handed a chain, with what else it is handed; refused ones, too."""
        many = len(chain[0])
        calls = [(steps_of,), (quiet,), (come,), (take, None), (take, Chance(3).next_deed(chain))]
        calls += [(take, deed) for deed in chain[0][0][0][:2]] + [(take, (9, 5, "put", "a", 0))]
        calls += [(done, step) for step in steps_of(chain) + [("pass", many), ("rest", 0)]]
        calls += [(fall, place) for place in range(-1, many + 2)]
        calls += [(ask, "a"), (ask, ""), (told, 0, 1), (told, 5, 5)]
        calls += [(look, place, key) for place in range(-1, many + 1) for key in ("a", "A")]
        return calls

    def result(self, chain, call):
        """What the call tells, or the name of the class that refuses it."""
        try:
            return call[0](chain, *call[1:])
        except KeepError as refusal:
            return type(refusal).__name__

    def test_nothing_handed_in_is_changed(self):
        for chain in self.chains():
            kept = copy.deepcopy(chain)
            for call in self.calls(chain):
                self.result(chain, call)
                self.assertEqual(chain, kept, call)

    def test_no_list_stands_twice_or_in_what_was_handed_in(self):
        for chain in self.chains():
            handed_in = lists_in(chain)
            for call in self.calls(chain):
                lists = handed_in + lists_in(self.result(chain, call))
                self.assertEqual(len({id(one) for one in lists}), len(lists), call)

    def test_nothing_is_kept_between_calls(self):
        for chain in self.chains():
            kept = copy.deepcopy(chain)
            for call in self.calls(chain):
                result = self.result(chain, call)
                expected = copy.deepcopy(result)
                spoil(result)
                self.assertEqual(self.result(chain, call), expected, call)
            self.assertEqual(chain, kept)

    def test_what_was_told_stays_when_what_was_handed_in_is_changed(self):
        for chain in self.chains():
            for call in self.calls(chain):
                handed_in = copy.deepcopy(chain)
                result = self.result(handed_in, call)
                expected = copy.deepcopy(result)
                spoil(handed_in)
                self.assertEqual(result, expected, call)

    def test_run(self):
        for many, doings in rows():
            doings = doings + [("take", list(LOG[0])), ("take", [LOG]), ("take", ([], ()))]
            kept = copy.deepcopy(doings)
            result = run(many, doings)
            self.assertEqual(doings, kept)
            lists = lists_in(doings) + lists_in(result)
            self.assertEqual(len({id(one) for one in lists}), len(lists))
            expected = copy.deepcopy(result)
            spoil(result)
            self.assertEqual(run(many, doings), expected)
            self.assertEqual(doings, kept)


if __name__ == "__main__":
    unittest.main()
