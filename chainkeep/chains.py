"""Chains: how one begins, and how its first keeper takes a deed.

A chain is a tuple (keepers, coming), a keeper a tuple (log, sure, down, up).
"""

from chainkeep.deeds import is_deed
from chainkeep.errors import BadDeed, BadTurn, OtherDeed, TooMany

MOST_KEEPERS = 9


# The texts of the refusals name no number: one of any size may be too long
# for Python to write out.
def begun(many):
    """Tell the chain of so many keepers without deeds."""
    if not 1 <= many <= MOST_KEEPERS:
        raise TooMany("a chain has from 1 to 9 keepers")
    return [([], 0, [], []) for _ in range(many)], None


def copy_of(chain):
    """Tell the same chain, made of new lists only."""
    keepers, coming = chain
    fresh = [(list(log), sure, list(down), list(up)) for log, sure, down, up in keepers]
    if coming is not None:
        coming = list(coming)
    return fresh, coming


def take(chain, deed):
    """Tell the chain whose first keeper has taken the deed."""
    if not is_deed(deed):
        raise BadDeed("this is no deed")
    keepers, coming = copy_of(chain)
    log, sure, down, up = keepers[0]
    if _is_next(log, deed):
        log.append(deed)
        if len(keepers) == 1:
            sure = len(log)
        else:
            down.append(deed)
        keepers[0] = (log, sure, down, up)
    return keepers, coming


def _is_next(log, deed):
    """Tell whether the deed is new to the log; one that can't stand in it is refused."""
    earlier = [other for other in log if other[0] == deed[0]]
    turn = deed[1]
    if turn > len(earlier) + 1:
        raise BadTurn("a turn ahead of this one is still to come")
    if turn == len(earlier) + 1:
        return True
    # An asker's deeds stand in a log in the order of their turns, from 1 on.
    if earlier[turn - 1] != deed:
        raise OtherDeed("the log has another deed of this turn")
    return False
