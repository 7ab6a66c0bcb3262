"""Keepers that fall out, and new ones that come behind the last."""

from chainkeep.chains import MOST_KEEPERS, copy_of
from chainkeep.errors import NoKeeper, OneComing, OnlyKeeper, TooMany


def fall(chain, place):
    """Tell the chain from which the keeper of this place, or the new one, fell out."""
    keepers, coming = copy_of(chain)
    if coming is not None and place == len(keepers):
        return keepers, None
    if not 0 <= place < len(keepers):
        raise NoKeeper("no keeper has this place")
    if len(keepers) == 1:
        raise OnlyKeeper("the only keeper can't fall out")
    del keepers[place]
    if place == 0:
        _make_first(keepers)
    elif place == len(keepers):
        _make_last(keepers)
    else:
        _close_gap(keepers, place)
    return keepers, coming


def come(chain):
    """Tell the chain behind which a new keeper begins to come."""
    keepers, coming = copy_of(chain)
    if coming is not None:
        raise OneComing("a new keeper is coming already")
    if len(keepers) >= MOST_KEEPERS:
        raise TooMany("a chain has at most 9 keepers")
    if keepers[-1][0]:
        return keepers, []
    # There is nothing to learn, so no step would ever end the coming.
    keepers.append(([], 0, [], []))
    return keepers, None


# The helpers below change the list that they get, from which the keeper that
# fell out is gone already.
def _make_first(keepers):
    """Make the keeper behind the old first one the first."""
    log, sure, down, _ = keepers[0]
    keepers[0] = (log, sure, down, [])


def _make_last(keepers):
    """Make the keeper ahead of the old last one the last."""
    log, _, _, up = keepers[-1]
    if len(keepers) > 1:
        up.append(len(log))
    keepers[-1] = (log, len(log), [], up)


def _close_gap(keepers, place):
    """Join the keepers ahead of and behind the one that fell out of this place."""
    log, sure, _, up = keepers[place - 1]
    next_log, next_sure, next_down, _ = keepers[place]
    # What was under way by the lost one is lost too: the logs tell what to send again.
    keepers[place - 1] = (log, sure, log[len(next_log):], up)
    keepers[place] = (next_log, next_sure, next_down, [next_sure])
