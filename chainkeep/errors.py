"""What is refused, and why: one class for each kind of refusal."""


class KeepError(ValueError):
    """Any refusal; its name is that of its class."""

    def __init__(self, text):
        ValueError.__init__(self, text)
        self.name = self.__class__.__name__


class BadDeed(KeepError):
    """What was handed in is no deed."""


class BadKey(KeepError):
    """What was handed in is no key."""


class BadTurn(KeepError):
    """The turn of a deed is further on than its asker's next one."""


class OtherDeed(KeepError):
    """The log has another deed of this asker and turn."""


class NoStep(KeepError):
    """The step can't be done."""


class NoKeeper(KeepError):
    """The place is no keeper's."""


class OnlyKeeper(KeepError):
    """The only keeper can't fall out."""


class OneComing(KeepError):
    """A new keeper is coming already."""


class TooMany(KeepError):
    """A chain has from 1 to 9 keepers."""
