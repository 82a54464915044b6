"""Meetings: who can have beaten whom, in which rounds, and which results are certain."""

from cuptalk.checks import check_player
from cuptalk.errors import TooLarge
from cuptalk.slots import check_fits, obstacle
from cuptalk.wins import champions, greatest_wins, least_wins

LARGEST_CERTAIN_SIZE = 4


def check_meeting(talk, one, other):
    check_player(one, talk.size)
    check_player(other, talk.size)
    check_fits(talk)


def fits_result(talk, one, other):
    """Whether some cup fits a talk and the result that one player beat another one."""
    return one != other and obstacle(talk.with_result(one, other)) is None


def all_conquerors(talk, player):
    """The ascending list of all who can have beaten a player, in a talk that some cup fits."""
    return [one for one in range(1 << talk.size) if fits_result(talk, one, player)]


def could_beat(talk, one, other):
    """Whether one beat other in some cup that fits."""
    check_meeting(talk, one, other)
    return fits_result(talk, one, other)


def rounds_of(talk, one, other):
    """The first and the last round in which one can have beaten other, or None."""
    check_meeting(talk, one, other)
    if not fits_result(talk, one, other):
        return None
    more = talk.with_result(one, other)
    # Who loses has won all rounds before.
    return least_wins(more, other) + 1, greatest_wins(more, other) + 1


def conquerors(talk, player):
    """The ascending list of all who can have beaten a player."""
    check_player(player, talk.size)
    check_fits(talk)
    return all_conquerors(talk, player)


def could_meet(talk, one, other):
    """Whether two players played a match in some cup that fits."""
    check_meeting(talk, one, other)
    return fits_result(talk, one, other) or fits_result(talk, other, one)


def certain_results(talk):
    """The ascending list of the matches that are played, with this winner, in all cups that fit."""
    if talk.size > LARGEST_CERTAIN_SIZE:
        raise TooLarge("certain results are only told for sizes up to 4")
    free = champions(talk)
    found = []
    for loser in range(1 << talk.size):
        winners = all_conquerors(talk, loser)
        # In each cup, who is not the champion was beaten by somebody.
        if loser not in free and len(winners) == 1:
            found.append((winners[0], loser))
    return sorted(found)
