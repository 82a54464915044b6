"""Wins: how many matches each player can have won, and who can be the champion."""

from cuptalk.checks import check_player
from cuptalk.slots import check_fits, fits_claim, needs


def most_wins(talk, player):
    """The greatest number of wins of a player in the cups that fit a talk, of which there are some."""
    number = talk.size
    while not fits_claim(talk, player, number):
        number -= 1
    return number


def least_wins(talk, player):
    """The least number of wins of a player in the cups that fit."""
    check_player(player, talk.size)
    check_fits(talk)
    return needs(talk)[player]


def greatest_wins(talk, player):
    """The greatest number of wins of a player in the cups that fit."""
    check_player(player, talk.size)
    check_fits(talk)
    return most_wins(talk, player)


def wins_table(talk):
    """The least and the greatest number of wins of all players."""
    check_fits(talk)
    least = needs(talk)
    return [(least[player], most_wins(talk, player)) for player in range(1 << talk.size)]


def champions(talk):
    """The ascending list of those who can be the champion."""
    check_fits(talk)
    return [player for player in range(1 << talk.size) if fits_claim(talk, player, talk.size)]


def sure_champion(talk):
    """The only one who can be the champion, or None if there are more."""
    found = champions(talk)
    return found[0] if len(found) == 1 else None
