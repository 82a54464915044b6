"""Live talks: results and claims that come one by one, refused if they do not fit, with undo."""

from cuptalk.checks import is_integer
from cuptalk.errors import InvalidNumber, NotFitting, NothingToUndo
from cuptalk.slots import check_fits
from cuptalk.talks import Talk


class LiveTalk:
    """A talk that grows call by call and that some cup always fits."""

    def __init__(self, size):
        self._now = Talk(size, [], [])
        # The talk before each call that holds; a mark is how many calls held when it was made.
        self._before = []
        self._marks = []

    @property
    def refused(self):
        return 0

    def __len__(self):
        return len(self._before)

    def beat(self, one, other):
        """Add the result that one beat other."""
        self._take(self._now.with_result(one, other))
        return True

    def claim(self, player, number):
        """Add the claim that a player won at least so many matches."""
        self._take(self._now.with_claim(player, number))
        return True

    def now(self):
        """The talk of all calls that hold."""
        return self._now

    def undo(self):
        """Undo the last call that holds, and remove the marks that were made after it."""
        if self._before == []:
            raise NothingToUndo("no result and no claim holds")
        self._now = self._before.pop()
        self._marks = [many for many in self._marks if many <= len(self._before)]

    def mark(self):
        """Make a mark, and return its number."""
        self._marks.append(len(self._before))
        return len(self._marks) - 1

    def undo_to(self, index):
        """Undo the calls behind a mark, keep it and remove later marks."""
        if not is_integer(index) or not 0 <= index < len(self._marks):
            raise InvalidNumber("there is no mark with this number")
        many = self._marks[index]
        if many < len(self._before):
            self._now = self._before[many]
        self._before = self._before[:many]
        self._marks = self._marks[:index + 1]

    def twin(self):
        """An independent copy, with all calls that hold and all marks."""
        other = LiveTalk(self._now.size)
        self._copy_to(other)
        return other

    def _take(self, talk):
        check_fits(talk)
        self._before.append(self._now)
        self._now = talk

    def _copy_to(self, other):
        other._now = self._now
        other._before = list(self._before)
        other._marks = list(self._marks)


class QuietTalk(LiveTalk):
    """A live talk that counts what does not fit, and raises no error for it."""

    def __init__(self, size):
        super().__init__(size)
        self._refused = 0

    @property
    def refused(self):
        return self._refused

    def beat(self, one, other):
        """Add the result that one beat other; return False if no cup would fit."""
        try:
            return super().beat(one, other)
        except NotFitting:
            self._refused += 1
            return False

    def claim(self, player, number):
        """Add the claim that a player won at least so many matches; return False if no cup would fit."""
        try:
            return super().claim(player, number)
        except NotFitting:
            self._refused += 1
            return False

    def twin(self):
        """An independent copy, with all calls that hold, all marks and the number of those that were refused."""
        other = QuietTalk(self._now.size)
        self._copy_to(other)
        other._refused = self._refused
        return other
