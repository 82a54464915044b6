"""The errors of the package: one class for each kind of failure."""


class TalkError(ValueError):
    """What all errors of the package have in common."""


class InvalidSize(TalkError):
    """A size is no integer from 0 to 6."""


class InvalidResults(TalkError):
    """Something is no list of at most 200 results."""


class InvalidClaims(TalkError):
    """Something is no list of at most 200 claims."""


class InvalidCup(TalkError):
    """Something is no order, no list of rounds or not the cup that is needed."""


class InvalidPlayer(TalkError):
    """Somebody is no player, or one player stands where two are needed."""


class InvalidNumber(TalkError):
    """A number or an index is out of its limits."""


class InvalidTalk(TalkError):
    """Something is no talk of the size that is needed."""


class TooLarge(TalkError):
    """A talk is too large for a question."""


class NothingToUndo(TalkError):
    """No call is left that could be undone."""


class NotFitting(TalkError):
    """No cup fits a talk; the obstacle shows why."""

    def __init__(self, obstacle):
        super().__init__("no cup fits the talk")
        self.obstacle = obstacle


class InvalidText(TalkError):
    """A string is no text of a value; the word is the number of the first wrong one."""

    def __init__(self, word):
        super().__init__("a word of the text cannot stand there")
        self.word = word
