"""The small steps by which deeds, counts and a new keeper get on."""

from chainkeep.chains import copy_of
from chainkeep.errors import NoStep


def steps_of(chain):
    """Tell the list of the steps that can be done."""
    keepers, coming = chain
    steps = [("pass", place) for place, keeper in enumerate(keepers) if keeper[2]]
    steps += [("back", place) for place, keeper in enumerate(keepers) if keeper[3]]
    if coming is not None:
        steps.append(("learn", len(keepers)))
    return steps


def done(chain, step):
    """Tell the chain in which the step is done."""
    if step not in steps_of(chain):
        raise NoStep("this step can't be done")
    return _do(copy_of(chain), step)


def quiet(chain):
    """Tell the chain that comes of doing steps until there are none."""
    chain = copy_of(chain)
    steps = steps_of(chain)
    while steps:
        chain = _do(chain, steps[0])
        steps = steps_of(chain)
    return chain


# It and the helpers below change the lists that they get, so that many steps
# need no copy each; whoever calls it hands it a chain that is told to nobody
# else yet, and a step of that chain.
def _do(chain, step):
    """Do the step in this very chain and tell what the chain is then."""
    keepers, coming = chain
    word, place = step
    if word == "pass":
        _pass_on(keepers, place)
    elif word == "back":
        _send_back(keepers, place)
    else:
        coming = _learn(keepers, coming)
    return keepers, coming


def _pass_on(keepers, place):
    """Let the first deed on this keeper's down come to the next keeper."""
    deed = keepers[place][2].pop(0)
    log, sure, down, up = keepers[place + 1]
    log.append(deed)
    if place + 2 == len(keepers):
        sure = len(log)
        up.append(sure)
    else:
        down.append(deed)
    keepers[place + 1] = (log, sure, down, up)


def _send_back(keepers, place):
    """Let the first count on this keeper's up come to the keeper ahead."""
    count = keepers[place][3].pop(0)
    log, sure, down, up = keepers[place - 1]
    sure = max(sure, count)
    if place > 1:
        up.append(sure)
    keepers[place - 1] = (log, sure, down, up)


def _learn(keepers, coming):
    """Let the new one learn its next deed; tell what coming is then."""
    log = keepers[-1][0]
    coming.append(log[len(coming)])
    if len(coming) < len(log):
        return coming
    keepers.append((coming, len(coming), [], []))
    return None
