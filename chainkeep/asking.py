"""What can be asked of a chain: of its last keeper, or of any."""

from chainkeep.deeds import is_key, plainly
from chainkeep.errors import BadKey, NoKeeper


def ask(chain, key):
    """Tell the number that the key has with the last keeper, or None."""
    if not is_key(key):
        raise BadKey("this is no key")
    log = chain[0][-1][0]
    return _number_after(log, key)


def told(chain, asker, turn):
    """Tell whether the last keeper has this deed, and the deed's answer."""
    log = chain[0][-1][0]
    _, answers = plainly(log)
    for deed, answer in zip(log, answers):
        if deed[0] == asker and deed[1] == turn:
            return "done", answer
    return "not yet", None


def look(chain, place, key):
    """Tell what the keeper of this place knows for sure of the key."""
    keepers = chain[0]
    if not 0 <= place < len(keepers):
        raise NoKeeper("no keeper has this place")
    if not is_key(key):
        raise BadKey("this is no key")
    log, sure, _, _ = keepers[place]
    if any(deed[3] == key for deed in log[sure:]):
        return "unsure", None
    return "sure", _number_after(log[:sure], key)


def _number_after(deeds, key):
    """Tell the number that the key has by plain doing of the deeds, or None."""
    store, _ = plainly(deeds)
    return store.get(key)
