"""Slots: whether some cup fits a talk, what stands in the way, and a cup that fits."""

from cuptalk.checks import check_number, check_player, is_integer, is_player
from cuptalk.cups import Cup
from cuptalk.errors import InvalidNumber, NotFitting


def ring_of(winners):
    """The players of a ring, each before the one that it beat, or None; winners tells who beat each loser."""
    seen = {}
    for start in winners:
        way = []
        player = start
        while player in winners and player not in seen:
            seen[player] = start
            way.append(player)
            player = winners[player]
        # Whoever was seen from an earlier start leads to no ring, or that start would have ended the search.
        if seen.get(player) == start:
            return way[way.index(player):][::-1]
    return None


def clash(talk):
    """A certificate of two players who beat the same one, or of a ring, or None."""
    winners = {}
    for winner, loser in talk.results:
        if loser in winners:
            return ("twice", winners[loser], winner, loser)
        winners[loser] = winner
    ring = ring_of(winners)
    return None if ring is None else ("ring", ring)


def check_clash(talk):
    found = clash(talk)
    if found is not None:
        raise NotFitting(found)


def losers_of(talk):
    """For each player the list of those that it beat by a result."""
    losers = [[] for _ in range(1 << talk.size)]
    for winner, loser in talk.results:
        losers[winner].append(loser)
    return losers


def bottom_up(losers):
    """All players, each behind those that it beat."""
    beaten = {loser: True for row in losers for loser in row}
    players = [player for player in range(len(losers)) if player not in beaten]
    at = 0
    while at < len(players):
        players.extend(losers[players[at]])
        at += 1
    return players[::-1]


def needs_and_slots(talk):
    """The needs and the slots of all players in a talk that has no clash."""
    losers = losers_of(talk)
    needed = [0 for _ in losers]
    for player, number in talk.claims:
        needed[player] = number
    given = [0 for _ in losers]
    for player in bottom_up(losers):
        before = -1
        for need, loser in sorted([(needed[one], one) for one in losers[player]]):
            before = max(need, before + 1)
            given[loser] = before
        needed[player] = max(needed[player], before + 1)
        # This is the slot of a player whom nobody beat; for the others, the turn of who beat them comes later.
        given[player] = needed[player]
    return needed, given


def needs(talk):
    """The needs of all players, also if no cup fits because of too many slots."""
    check_clash(talk)
    return needs_and_slots(talk)[0]


def slots(talk):
    """The slots of all players, also if no cup fits because of too many slots."""
    check_clash(talk)
    return needs_and_slots(talk)[1]


def most_places(size, number):
    """How many players win at least so many matches in a cup; for more matches than rounds, nobody does."""
    return (1 << size) >> number


def crowd(size, given):
    """A certificate of too many players with slots that are too great, or None."""
    for number in range(1, size + 2):
        players = [player for player in range(1 << size) if given[player] >= number]
        if len(players) > most_places(size, number):
            return ("full", number, players)
    return None


def obstacle(talk):
    """None if some cup fits a talk, else a certificate that none does."""
    found = clash(talk)
    if found is None:
        found = crowd(talk.size, needs_and_slots(talk)[1])
    return found


def check_fits(talk):
    found = obstacle(talk)
    if found is not None:
        raise NotFitting(found)


def fits_claim(talk, player, number):
    """Whether some cup fits a talk and the claim that a player won at least so many matches."""
    return obstacle(talk.with_claim(player, number)) is None


def shows_twice(talk, one, other, loser):
    # What is in the talk are integers, so that the two can be compared.
    return (one, loser) in talk and (other, loser) in talk and one < other


def shows_ring(talk, players):
    if not isinstance(players, list) or players == []:
        return False
    if not all([(players[at - 1], players[at]) in talk for at in range(len(players))]):
        return False
    return len(set(players)) == len(players)


def shows_crowd(talk, number, players):
    if not is_integer(number) or not 1 <= number <= talk.size + 1 or not isinstance(players, list):
        return False
    if not all([is_player(player, talk.size) for player in players]) or players != sorted(set(players)):
        return False
    if len(players) <= most_places(talk.size, number) or clash(talk) is not None:
        return False
    given = needs_and_slots(talk)[1]
    return all([given[player] >= number for player in players])


def shows_obstacle(talk, thing):
    """Whether any object is a certificate that no cup fits a talk."""
    if not isinstance(thing, tuple) or thing == ():
        return False
    if thing[0] == "twice" and len(thing) == 4:
        return shows_twice(talk, thing[1], thing[2], thing[3])
    if thing[0] == "ring" and len(thing) == 2:
        return shows_ring(talk, thing[1])
    if thing[0] == "full" and len(thing) == 3:
        return shows_crowd(talk, thing[1], thing[2])
    return False


def stage_by_slots(left, number, winners, given, early):
    """The matches of a round between the players who are left; early loses if it may."""
    known = [(winners[player], player) for player in left if player in winners and given[player] == number - 1]
    busy = {player: True for pair in known for player in pair}
    free = [player for player in left if player not in busy]
    strong = [player for player in free if given[player] >= number]
    weak = sorted([player for player in free if given[player] < number], key=lambda player: player != early)
    half = len(free) // 2
    return known + list(zip(strong + weak[half:], weak[:half]))


def cup_by_slots(talk, given, early=None):
    """A cup in which all who are beaten by a result win as many matches as their slots, the others no less."""
    winners = {loser: winner for winner, loser in talk.results}
    left = list(range(1 << talk.size))
    rounds = []
    for number in range(1, talk.size + 1):
        stage = stage_by_slots(left, number, winners, given, early)
        rounds.append(stage)
        left = [winner for winner, _ in stage]
    return Cup.of(rounds)


def cup_for(talk):
    """A cup that fits a talk."""
    check_fits(talk)
    return cup_by_slots(talk, slots(talk))


def slots_with(talk, player, number):
    """Slots for a talk with as many places, in which a player has its need, the number, as its slot."""
    given = slots(talk)
    place = given[player]
    same = [winner for winner, loser in talk.results if loser == player]
    for winner, loser in talk.results:
        # From a need up to the slot, those whom the same player beat have all numbers, so each moves to the next one.
        if winner in same and number <= given[loser] < place:
            given[loser] += 1
    given[player] = number
    return given


def cup_with(talk, player, number):
    """A cup that fits a talk, in which a player wins exactly so many matches."""
    check_player(player, talk.size)
    check_fits(talk)
    check_number(number, talk.size)
    if number < needs(talk)[player] or not fits_claim(talk, player, number):
        raise InvalidNumber("the player has to win more matches, or cannot win so many")
    more = talk.with_claim(player, number)
    return cup_by_slots(more, slots_with(more, player, number), player)
