"""Keys and deeds, and what doing deeds leads to."""

WORDS = ("put", "add", "once", "away")


def is_number(thing):
    """Tell whether the thing is a whole number; True and False are none."""
    return isinstance(thing, int) and not isinstance(thing, bool)


def is_key(thing):
    """Tell whether the thing is a text of 1 to 8 letters a to z."""
    if not isinstance(thing, str) or not 1 <= len(thing) <= 8:
        return False
    return all("a" <= sign <= "z" for sign in thing)


def is_deed(thing):
    """Tell whether the thing is a tuple (asker, turn, word, key, value)."""
    if not isinstance(thing, tuple) or len(thing) != 5:
        return False
    asker, turn, word, key, value = thing
    if not is_number(asker) or not 0 <= asker <= 9:
        return False
    if not is_number(turn) or turn < 1:
        return False
    if word not in WORDS or not is_key(key):
        return False
    return is_number(value) and (word != "away" or value == 0)


def done_by(store, deed):
    """Tell the pair of a new store, in which the deed is done, and its answer."""
    after = dict(store)
    answer = _do(after, deed)
    return after, answer


def plainly(deeds):
    """Do the deeds from the empty store on; tell the store and the list of the answers."""
    store = {}
    answers = []
    for deed in deeds:
        answers.append(_do(store, deed))
    return store, answers


# It changes the store that it gets, so that many deeds need no copy each;
# whoever calls it hands it a store that is told to nobody else yet.
def _do(store, deed):
    """Do the deed in this very store and tell its answer."""
    word, key, value = deed[2:]
    had = store.get(key)
    if word == "away":
        store.pop(key, None)
        return had
    if word == "put":
        store[key] = value
        return had
    if word == "add":
        store[key] = store.get(key, 0) + value
    elif had is None:
        store[key] = value
    return store[key]
