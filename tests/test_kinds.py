"""What a key is and what a deed is (point 2)."""

import unittest

from chainkeep.deeds import is_deed, is_key
from tests.helping import HUGE

DEED = (3, 7, "put", "ab", 5)
NO_NUMBERS = (True, False, None, "", "1", "a", [], [1], (), (1,), ("a",), [[1]])
NO_TEXTS = (True, False, None, 0, 1, -1, HUGE, [], ["a"], ["put"], (), ("a",), ("put",))


def with_part(at, thing):
    """The good deed with another thing at this place."""
    return DEED[:at] + (thing,) + DEED[at + 1:]


class KindsTest(unittest.TestCase):
    def check(self, asked, things, answer):
        for thing in things:
            told = asked(thing)
            self.assertIs(told, answer, thing if thing != HUGE else "huge")


class KeyTest(KindsTest):
    def test_each_letter_and_each_length(self):
        self.check(is_key, "abcdefghijklmnopqrstuvwxyz", True)
        self.check(is_key, ["a" * many for many in range(1, 9)], True)
        self.check(is_key, ("abcdefgh", "zzzzzzzz", "az", "put", "none"), True)

    def test_too_short_and_too_long(self):
        self.check(is_key, ("", "a" * 9, "abcdefghi", "a" * 1000), False)

    def test_other_signs(self):
        self.check(is_key, ("A", "Z", "aB", "Ab", "abcdefgH", "ABC"), False)
        self.check(is_key, (" ", "a b", " a", "a ", "a\n", "\ta", "a\x00"), False)
        self.check(is_key, ("0", "a1", "1a", "_", "a_b", "-", "a-", ".", "`", "{", "@", "["), False)
        self.check(is_key, ("\u00e4", "\u00df", "\u03b1", "a\u0301", "\uff41", "\u00aa", "\u0131"), False)

    def test_what_is_no_text(self):
        self.check(is_key, NO_TEXTS, False)
        self.check(is_key, (["a", "b"], ("a", "b"), [["a"]], (("a",),), DEED), False)


class DeedTest(KindsTest):
    def test_good_ones(self):
        self.check(is_deed, (DEED, (0, 1, "away", "a", 0), (9, HUGE, "add", "abcdefgh", -HUGE)), True)
        self.check(is_deed, [with_part(2, word) for word in ("put", "add", "once")], True)
        self.check(is_deed, [(0, 1, word, "a", 0) for word in ("put", "add", "once", "away")], True)

    def test_askers(self):
        self.check(is_deed, [with_part(0, asker) for asker in range(10)], True)
        self.check(is_deed, [with_part(0, asker) for asker in (-1, 10, 11, -9, HUGE, -HUGE)], False)
        self.check(is_deed, [with_part(0, asker) for asker in NO_NUMBERS], False)

    def test_turns(self):
        self.check(is_deed, [with_part(1, turn) for turn in (1, 2, 10, HUGE)], True)
        self.check(is_deed, [with_part(1, turn) for turn in (0, -1, -HUGE)], False)
        self.check(is_deed, [with_part(1, turn) for turn in NO_NUMBERS], False)

    def test_words(self):
        near = ("", "pu", "putt", "Put", "PUT", " put", "put ", "ad", "onc", "aways", "get", "putadd", "a")
        self.check(is_deed, [with_part(2, word) for word in near], False)
        self.check(is_deed, [(0, 1, word, "a", 0) for word in near], False)
        self.check(is_deed, [with_part(2, word) for word in NO_TEXTS], False)
        self.check(is_deed, [with_part(2, word) for word in (["put", "add"], ("put", "add"))], False)

    def test_keys(self):
        self.check(is_deed, [with_part(3, key) for key in ("a", "abcdefgh", "zzz")], True)
        self.check(is_deed, [with_part(3, key) for key in ("", "abcdefghi", "A", "a b", "a1", "a_")], False)
        self.check(is_deed, [with_part(3, key) for key in NO_TEXTS], False)
        self.check(is_deed, [(0, 1, "away", key, 0) for key in ("", "abcdefghi", "A", None)], False)

    def test_values(self):
        for word in ("put", "add", "once"):
            good = [(0, 1, word, "a", value) for value in (0, 1, -1, HUGE, -HUGE)]
            self.check(is_deed, good, True)
            self.check(is_deed, [(0, 1, word, "a", value) for value in NO_NUMBERS], False)

    def test_values_of_away(self):
        self.check(is_deed, [(0, 1, "away", "a", value) for value in (1, -1, HUGE, -HUGE)], False)
        self.check(is_deed, [(0, 1, "away", "a", value) for value in NO_NUMBERS], False)

    def test_tuples_of_other_lengths(self):
        self.check(is_deed, [DEED[:many] for many in range(5)], False)
        self.check(is_deed, (DEED + (0,), DEED + (None,), DEED + DEED, (DEED,), (DEED, DEED)), False)

    def test_what_is_no_tuple(self):
        self.check(is_deed, (list(DEED), [DEED], [], "", "put", "aaaaa", 0, 1, HUGE, True, False, None), False)

    def test_all_parts_of_a_wrong_kind(self):
        self.check(is_deed, [(part,) * 5 for part in (True, None, "put", "a", [], (), 0, 1)], False)


if __name__ == "__main__":
    unittest.main()
