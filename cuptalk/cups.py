"""Cups: all matches of a knockout cup, as an order of its players."""

from cuptalk.checks import LARGEST_SIZE, check_player, is_integer, is_pair
from cuptalk.errors import InvalidCup
from cuptalk.talks import Talk

NUMBERS_OF_PLAYERS = (1, 2, 4, 8, 16, 32, 64)


def is_order(thing):
    """Whether any object is a list of all players of some cup, each once."""
    if not isinstance(thing, list) or len(thing) not in NUMBERS_OF_PLAYERS:
        return False
    return all([is_integer(player) for player in thing]) and sorted(thing) == list(range(len(thing)))


def is_list_of_rounds(thing):
    """Whether any object is the list of the rounds of some cup."""
    if not isinstance(thing, list) or len(thing) > LARGEST_SIZE:
        return False
    left = list(range(1 << len(thing)))
    for stage in thing:
        if not isinstance(stage, list) or not all([is_pair(pair) for pair in stage]):
            return False
        if sorted([player for pair in stage for player in pair]) != left:
            return False
        left = sorted([winner for winner, _ in stage])
    return True


def rounds_of_order(order):
    """The rounds of the cup that has an order, the matches of each ascending."""
    left = order
    rounds = []
    while len(left) > 1:
        # Those who are left lead their parts of the order, so neighbours meet and the first one of both wins.
        rounds.append(sorted([(left[at], left[at + 1]) for at in range(0, len(left), 2)]))
        left = left[::2]
    return rounds


def order_of_rounds(rounds):
    """The order of the cup that has these rounds."""
    parts = [[player] for player in range(1 << len(rounds))]
    for stage in rounds:
        for winner, loser in stage:
            parts[winner] = parts[winner] + parts[loser]
    return max(parts, key=len)


class Cup:
    """A cup that was played to its end."""

    def __init__(self, order):
        if not is_order(order):
            raise InvalidCup("an order is a list of all players of a cup, each once")
        self._order = list(order)
        self._rounds = rounds_of_order(self._order)
        self._conquerors = [None for _ in order]
        self._beaten = [[] for _ in order]
        for stage in self._rounds:
            for winner, loser in stage:
                self._conquerors[loser] = winner
                self._beaten[winner].append(loser)

    @classmethod
    def of(cls, rounds):
        """The cup that has these rounds."""
        if not is_list_of_rounds(rounds):
            raise InvalidCup("rounds are a list of lists of matches, each between players who are left")
        return cls(order_of_rounds(rounds))

    @property
    def order(self):
        return list(self._order)

    @property
    def size(self):
        return len(self._rounds)

    @property
    def champion(self):
        return self._order[0]

    def __eq__(self, other):
        return isinstance(other, Cup) and self._order == other._order

    def __call__(self, thing):
        """Whether any object is a talk of the same size that the cup fits."""
        if not isinstance(thing, Talk) or thing.size != self.size:
            return False
        if not all([self._conquerors[loser] == winner for winner, loser in thing.results]):
            return False
        return all([len(self._beaten[player]) >= number for player, number in thing.claims])

    def wins(self, player):
        """How many matches a player won."""
        check_player(player, self.size)
        return len(self._beaten[player])

    def conqueror(self, player):
        """Who beat a player, None for the champion."""
        check_player(player, self.size)
        return self._conquerors[player]

    def beaten(self, player):
        """Those that a player beat, from round 1 on."""
        check_player(player, self.size)
        return list(self._beaten[player])

    def round_of(self, one, other):
        """The round in which two players met, or None."""
        check_player(one, self.size)
        check_player(other, self.size)
        # Who is beaten has won all rounds before, so the next one is where it lost.
        if self._conquerors[one] == other:
            return len(self._beaten[one]) + 1
        if self._conquerors[other] == one:
            return len(self._beaten[other]) + 1
        return None

    def rounds(self):
        """The rounds, the matches of each ascending."""
        return [list(stage) for stage in self._rounds]

    def matches(self):
        """All matches, round by round, each round ascending."""
        for stage in self._rounds:
            for pair in stage:
                yield pair

    def talk(self):
        """The talk with all results, without claims."""
        return Talk(self.size, list(self.matches()), [])
