"""Talks: what is known of a cup, as results and claims."""

from cuptalk.checks import check_claims, check_number, check_player, check_results, check_size, is_pair
from cuptalk.errors import InvalidPlayer, InvalidTalk


def greatest_claims(claims):
    """The ascending list of the claims that say more than all others of the same player and than nothing."""
    greatest = {}
    for player, number in claims:
        greatest[player] = max(number, greatest.get(player, 0))
    return [(player, greatest[player]) for player in sorted(greatest) if greatest[player] > 0]


class Talk:
    """Results and claims for cups of one size."""

    def __init__(self, size, results, claims):
        check_size(size)
        check_results(results, size)
        check_claims(claims, size)
        self._size = size
        self._results = sorted(set(results))
        self._claims = greatest_claims(claims)

    @property
    def size(self):
        return self._size

    @property
    def results(self):
        return list(self._results)

    @property
    def claims(self):
        return list(self._claims)

    def __len__(self):
        return len([*self._results, *self._claims])

    def __eq__(self, other):
        return (
            isinstance(other, Talk)
            and self._size == other._size
            and self._results == other._results
            and self._claims == other._claims
        )

    def __contains__(self, thing):
        # A boolean is equal to an integer, so the form of the thing counts, too.
        return is_pair(thing) and thing in self._results

    def __add__(self, other):
        if not isinstance(other, Talk) or other._size != self._size:
            raise InvalidTalk("only a talk of the same size can be added")
        return self._with_more(other._results, other._claims)

    def with_result(self, one, other):
        """The talk that also says that one beat other."""
        check_player(one, self._size)
        check_player(other, self._size)
        if one == other:
            raise InvalidPlayer("nobody beats itself")
        return self._with_more([(one, other)], [])

    def with_claim(self, player, number):
        """The talk that also says that a player won at least so many matches."""
        check_player(player, self._size)
        check_number(number, self._size)
        return self._with_more([], [(player, number)])

    def _with_more(self, results, claims):
        talk = Talk(self._size, [], [])
        # The limit of 200 is one for callers, so the lists do not go through __init__.
        talk._results = sorted(set([*self._results, *results]))
        talk._claims = greatest_claims([*self._claims, *claims])
        return talk
