"""What several tests need: chains made by hand, what holds in a chain, the lists in a thing."""

from chainkeep.chains import begun
from chainkeep.steps import steps_of

PUT_1 = (0, 1, "put", "a", 5)
ADD_1 = (1, 1, "add", "b", -3)
ADD_2 = (0, 2, "add", "a", 2)
ONCE_2 = (1, 2, "once", "a", 9)
AWAY_3 = (0, 3, "away", "b", 0)
LOG = [PUT_1, ADD_1, ADD_2, ONCE_2, AWAY_3]

# One of more digits than Python writes out; a message that names it would fail.
HUGE = 10 ** 5000


def made_chains():
    """Chains of every kind that point 6 lets be: new lists at each call."""
    return [
        ([(list(LOG), 5, [], [])], None),
        ([(list(LOG), 5, [], [])], []),
        ([(list(LOG), 5, [], [])], LOG[:4]),
        ([(list(LOG), 0, list(LOG), []), ([], 0, [], [])], None),
        ([(list(LOG), 1, LOG[3:], []), (LOG[:3], 3, [], [2, 3])], LOG[:2]),
        ([(list(LOG), 5, [], []), (list(LOG), 5, [], [5, 5])], []),
        three_keepers(),
        (
            [(list(LOG), 2, LOG[4:], [])]
            + [(LOG[:4], 2, [], []) for _ in range(7)]
            + [(LOG[:4], 4, [], [3, 4])],
            None,
        ),
    ] + [begun(many) for many in range(1, 10)]


def still(log, many):
    """The chain of so many keepers with this log and nothing under way."""
    return [(list(log), len(log), [], []) for _ in range(many)], None


def three_keepers():
    """A chain with each kind of step to do: new lists at each call."""
    return (
        [
            (list(LOG), 0, LOG[4:], []),
            (LOG[:4], 1, LOG[2:4], [0, 1, 1]),
            (LOG[:2], 2, [], [2]),
        ],
        LOG[:1],
    )


def turns_of(chain, asker):
    """How many deeds of this asker the first keeper's log has."""
    return len([deed for deed in chain[0][0][0] if deed[0] == asker])


class Chance:
    """Choices that only the seed tells, the same ones at each run."""

    def __init__(self, seed):
        self.state = seed
        self.shrinks = seed % 2 == 1

    def below(self, many):
        """A number from 0 to many - 1."""
        self.state = (self.state * 6364136223846793005 + 1442695040888963407) % 2 ** 64
        return (self.state >> 33) % many

    def one_of(self, things):
        return things[self.below(len(things))]

    def next_deed(self, chain, askers=3):
        """A deed that is new to the first keeper's log."""
        asker = self.below(askers)
        word = self.one_of(("put", "add", "once", "away"))
        value = 0 if word == "away" else self.below(9) - 4
        return (asker, turns_of(chain, asker) + 1, word, self.one_of("abc"), value)

    def doing(self, chain):
        """Something to do with the chain; now and then it is refused."""
        steps = steps_of(chain)
        what = self.below(20)
        if what < 5:
            return ("take", self.next_deed(chain))
        if what == 5:
            asker, turn, word, key, value = self.next_deed(chain)
            return ("take", (asker, turn + self.below(4) - 2, word, key, value))
        if what == 6 and chain[0][0][0]:
            return ("take", self.one_of(chain[0][0][0]))
        # Rows that shrink come down to one keeper, the others up to nine.
        if what == 7 or what == 8 and self.shrinks:
            return ("fall", self.below(len(chain[0]) + 3) - 1)
        if what in (8, 9):
            return ("come", 0)
        if what == 10 and self.below(5) == 0:
            return ("quiet", 0)
        if what == 11:
            return (self.one_of(("pass", "back", "learn", "come", "rest")), self.below(12) - 1)
        return self.one_of(steps) if steps else ("take", self.next_deed(chain))


def lists_in(thing):
    """Each list and dict that stands in the thing, as often as it stands there."""
    if isinstance(thing, dict):
        return [thing] + [held for key in thing for held in lists_in(thing[key])]
    if not isinstance(thing, (list, tuple)):
        return []
    inner = [held for part in thing for held in lists_in(part)]
    return [thing] + inner if isinstance(thing, list) else inner


def spoil(thing):
    """Change each list and dict that stands in the thing."""
    for held in lists_in(thing):
        if isinstance(held, dict):
            held["spoilt"] = -1
        else:
            held.append("spoilt")


def faults_of(chain):
    """What points 5 and 6 say that the chain breaks, as a list of texts."""
    if not isinstance(chain, tuple) or len(chain) != 2:
        return ["no pair"]
    keepers, coming = chain
    if not isinstance(keepers, list) or not 1 <= len(keepers) <= 9:
        return ["keepers"]
    if not all(_is_keeper(keeper) for keeper in keepers):
        return ["keeper"]
    faults = [] if _turns_hold(keepers[0][0]) else ["turns"]
    for place in range(len(keepers)):
        faults.extend(_faults_at(keepers, place))
    last_log = keepers[-1][0]
    if coming is not None:
        if not isinstance(coming, list) or coming != last_log[:len(coming)]:
            faults.append("coming is no beginning")
        elif len(coming) >= len(last_log):
            faults.append("coming is too long")
        if len(keepers) == 9:
            faults.append("coming beside nine")
    return faults


def _is_keeper(keeper):
    if type(keeper) is not tuple or len(keeper) != 4:
        return False
    log, sure, down, up = keeper
    return type(sure) is int and all(type(part) is list for part in (log, down, up))


def _turns_hold(log):
    turns = {}
    for asker, turn, _, _, _ in log:
        turns[asker] = turns.get(asker, 0) + 1
        if turn != turns[asker]:
            return False
    return True


def _faults_at(keepers, place):
    log, sure, down, up = keepers[place]
    faults = []
    if place + 1 == len(keepers):
        if down:
            faults.append("the last one's down")
        if sure != len(log):
            faults.append("the last one's sure")
    else:
        if log != keepers[place + 1][0] + down:
            faults.append("log")
        if sure > keepers[place + 1][1]:
            faults.append("sure above the next one's")
    if place == 0:
        return faults + (["the first one's up"] if up else [])
    if up != sorted(up) or any(count > sure for count in up):
        faults.append("up")
    if sure != max([keepers[place - 1][1]] + up):
        faults.append("sure")
    return faults
