"""Many doings, one behind the other."""

from chainkeep.chains import begun, take
from chainkeep.errors import KeepError
from chainkeep.falling import come, fall
from chainkeep.steps import done, quiet


def run(many, doings):
    """Tell the chain that comes of the doings, and what came of each of them."""
    chain = begun(many)
    outcomes = []
    for doing in doings:
        try:
            chain = _after(chain, doing)
            outcomes.append("done")
        except KeepError as refusal:
            outcomes.append(refusal.name)
    return chain, outcomes


def _after(chain, doing):
    """Tell the chain behind this doing."""
    word, thing = doing
    if word == "take":
        return take(chain, thing)
    if word == "fall":
        return fall(chain, thing)
    if doing == ("come", 0):
        return come(chain)
    if doing == ("quiet", 0):
        return quiet(chain)
    return done(chain, doing)
