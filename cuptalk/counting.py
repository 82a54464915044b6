"""Counting: how many cups fit some claims, and which one of them has which index."""

from cuptalk.checks import LARGEST_SIZE, is_integer
from cuptalk.cups import Cup
from cuptalk.errors import InvalidCup, InvalidNumber
from cuptalk.talks import Talk


def wins_of_places(size):
    """How many matches the player at each place of an order wins."""
    wins = [0]
    for number in range(1, size + 1):
        wins = [number, *wins[1:], *wins]
    return wins


def wanted_wins(talk):
    """How many matches each player has to win for the claims of a talk."""
    wanted = [0 for _ in range(1 << talk.size)]
    for player, number in talk.claims:
        wanted[player] = number
    return wanted


def ways(places, wanted):
    """In how many ways players can take as many places, each one a place that wins as many matches as it wants."""
    room = [len([wins for wins in places if wins >= number]) for number in range(LARGEST_SIZE + 1)]
    many = 1
    for taken, number in enumerate(sorted(wanted, reverse=True)):
        # Those before want no less, so their places are all among the ones that would do here. No factor is negative
        # unless one before it is 0, because from one player to the next the factors become less by at most 1.
        many = many * (room[number] - taken)
    return many


def choices(places, left, wanted):
    """Who of the players left can take the first place, each with the number of ways in which the others can go on."""
    # Which player it is does not matter to the others, only how many wins are not wanted any more.
    after = {}
    for number in range(places[0] + 1):
        others = [wanted[player] for player in left]
        if number in others:
            others.remove(number)
            after[number] = ways(places[1:], others)
    return [(player, after[wanted[player]]) for player in left if wanted[player] in after]


def chosen(found, index):
    """Whose ways, in the sequence of the choices, the one with an index is among, and its index among them."""
    at = 0
    while index >= found[at][1]:
        index = index - found[at][1]
        at += 1
    return found[at][0], index


def count_cups(size, claims):
    """How many cups fit some claims."""
    talk = Talk(size, [], claims)
    return ways(wins_of_places(size), wanted_wins(talk))


def nth_cup(size, claims, index):
    """The cup that has an index among those that fit some claims, in the ascending order of their orders."""
    talk = Talk(size, [], claims)
    places, wanted = wins_of_places(size), wanted_wins(talk)
    if not is_integer(index) or not 0 <= index < ways(places, wanted):
        raise InvalidNumber("an index is an integer from 0 on, below the number of cups that fit")
    left = list(range(1 << size))
    order = []
    for at in range(1 << size):
        player, index = chosen(choices(places[at:], left, wanted), index)
        order.append(player)
        left.remove(player)
    return Cup(order)


def cup_index(size, claims, cup):
    """The index of a cup among those that fit some claims, in the ascending order of their orders."""
    talk = Talk(size, [], claims)
    if not isinstance(cup, Cup) or not cup(talk):
        raise InvalidCup("only a cup that fits the claims has an index")
    places, wanted = wins_of_places(size), wanted_wins(talk)
    left = list(range(1 << size))
    index = 0
    for at, player in enumerate(cup.order):
        index += sum([many for other, many in choices(places[at:], left, wanted) if other < player])
        left.remove(player)
    return index
