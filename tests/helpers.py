"""What several tests need: calls by position and by name, any objects, cups that are played, talks that fit and others,
and the definitions of the document, once more and word by word."""

import itertools
import random
import unittest

from cuptalk.cups import Cup
from cuptalk.errors import NotFitting, TalkError
from cuptalk.talks import Talk

SIZES = range(7)
HUGE = 10 ** 59


def nested():
    """A list that is nested 5 deep, with all kinds of objects in it."""
    return [(0, 1), {"a": [{"b": (True, [None, "x"])}]}, Talk(1, [], []), Cup([0])]


def any_objects():
    """Objects of all kinds, none of them a talk or a cup of more than two players."""
    return [
        -1, 0, 1, 7, 8, HUGE, -HUGE, True, False, None, "", "0", "0>1", [], [0], [True], [[]], [()], [(0,)], (), (0,),
        (0, 1), (0, True), (False, 1), (0, 1, 2), [0, 1], ["0", "1"], ("0", "1"), {}, {"size": 1}, {"0": 1},
        [(0, 1)], [[0, 1]], ((0, 1),), [(0, None)], nested(), tuple(nested()), [None] * 1000,
        Talk(0, [], []), Talk(1, [(0, 1)], [(0, 1)]), Cup([0]), Cup([1, 0]),
    ]


class Played:
    """A cup that is played round by round, with everything written down on the way."""

    def __init__(self, size, seed):
        chance = random.Random(seed)
        left = list(range(2 ** size))
        self.size = size
        self.rounds = []
        self.conqueror = {}
        self.beaten = {player: [] for player in left}
        self.round_of = {}
        for number in range(1, size + 1):
            chance.shuffle(left)
            stage = [(left[at], left[at + 1]) for at in range(0, len(left), 2)]
            for winner, loser in stage:
                self.conqueror[loser] = winner
                self.beaten[winner].append(loser)
                self.round_of[winner, loser] = self.round_of[loser, winner] = number
            self.rounds.append(stage)
            left = [winner for winner, _ in stage]
        self.champion = left[0]
        self.conqueror[self.champion] = None

    def order(self):
        return self.part(self.champion, self.size)

    def part(self, player, number):
        """T(player, number), word by word as the document defines it."""
        if number == 0:
            return [player]
        other = self.beaten[player][number - 1]
        return self.part(player, number - 1) + self.part(other, number - 1)

    def results(self):
        return [pair for stage in self.rounds for pair in stage]


def played_cups():
    return [Played(size, seed) for size in SIZES for seed in range(5)]


def shuffled(items, seed):
    mixed = list(items)
    random.Random(seed).shuffle(mixed)
    return mixed


def all_results(size):
    return list(itertools.permutations(range(2 ** size), 2))


def all_claims(size):
    return [(player, number) for player in range(2 ** size) for number in range(size + 1)]


def numbers_of_wins(many):
    """How many matches the player at each place of an order of so many players wins, by playing it."""
    won = [0] * many
    left = list(range(many))
    while len(left) > 1:
        left = left[::2]
        for place in left:
            won[place] += 1
    return won


def orders_for(size, claims):
    """The orders of all cups that fit some claims, ascending, found by looking at all that there are."""
    won = numbers_of_wins(2 ** size)
    found = []
    # itertools yields the permutations of an ascending list in ascending order.
    for order in itertools.permutations(range(2 ** size)):
        places = {player: place for place, player in enumerate(order)}
        if all(won[places[player]] >= number for player, number in claims):
            found.append(list(order))
    return found


def summed(size, results, claims):
    """A talk of any number of results and claims, made by sums."""
    talk = Talk(size, [], [])
    for at in range(0, max(len(results), len(claims)), 200):
        talk = talk + Talk(size, results[at:at + 200], claims[at:at + 200])
    return talk


def talk_of_played(played, share, seed):
    """A talk that a cup fits: some of its results, many of them twice, and claims that are true in it."""
    chance = random.Random(seed)
    results = [pair for pair in played.results() if chance.random() < share]
    claims = [(player, chance.randint(0, len(beaten))) for player, beaten in played.beaten.items()]
    claims = [claim for claim in claims if chance.random() < share]
    return Talk(played.size, shuffled(results + results[::2], seed), shuffled(claims, seed))


def fitting_talks():
    """Talks of all sizes that some cups fit: empty ones, those of whole cups, and parts of them."""
    talks = [Talk(size, [], []) for size in SIZES]
    for size in SIZES:
        talks.append(Talk(size, shuffled(Played(size, 7).results(), 8), []))
        for seed, share in enumerate((0.1, 0.3, 0.5, 0.7, 0.9)):
            talks.append(talk_of_played(Played(size, seed), share, seed))
    return talks


def ring(players):
    """The results by which each player beats the next one, and the last one the first one."""
    return list(zip(players, players[1:] + players[:1]))


def talks_of_rings():
    """Talks with rings of 2 up to 64 players, alone and with other results and claims that fit."""
    talks = []
    for size in SIZES[1:]:
        for many in sorted({2, 3, 4, 2 ** size - 1, 2 ** size} & set(range(2, 2 ** size + 1))):
            mixed = shuffled(range(2 ** size), many)
            around, rest = mixed[:many], mixed[many:]
            talks.append(Talk(size, shuffled(ring(around), size), []))
            below = [(around[at % many], loser) for at, loser in enumerate(rest)]
            talks.append(Talk(size, shuffled(ring(around) + below, size), [(around[0], 1)]))
    return talks


def talks_with_pairs():
    """Talks in which some players were beaten by several ones, rings among the results too."""
    talks = []
    for size in SIZES[2:]:
        last = 2 ** size - 1
        talks.append(Talk(size, [(0, last), (1, last)], []))
        talks.append(Talk(size, [(last, 1), (0, 1), (1, 0), (2, 0), (2, last)], [(1, size), (2, size), (last, size)]))
        played = Played(size, 3)
        loser, other = played.beaten[played.champion][:2]
        talks.append(Talk(size, [*played.results(), (other, loser)], []))
        talks.append(summed(size, all_results(size), all_claims(size)))
    return talks


def crowded_talks():
    """Talks without pairs and rings in which there are too many slots."""
    talks = [
        Talk(2, [], [(0, 1), (1, 1), (2, 1)]),
        Talk(2, [(0, 1), (0, 2), (0, 3)], []),
        Talk(3, [(0, 1), (1, 2), (2, 3), (3, 4)], []),
        Talk(3, [(0, 1), (2, 3), (4, 5), (4, 6)], [(7, 1)]),
        Talk(3, [(0, 1), (2, 3), (0, 4)], [(2, 2), (6, 2), (5, 1)]),
    ]
    for size in SIZES[1:]:
        last = 2 ** size - 1
        talks.append(Talk(size, [], [(0, size), (last, size)]))
        talks.append(Talk(size, [(0, 1)], [(1, size)]))
        talks.append(Talk(size, [], all_claims(size)[-200:]))
        talks.append(Talk(size, [(player, player + 1) for player in range(last)], [(last, size)]))
        if size > 1:
            talks.append(Talk(size, [(last, player) for player in range(size + 1)], []))
            talks.append(Talk(size, [(last - 1, last)], [(last, size), (0, size), (1, 1)]))
    return talks


def misfits():
    """Talks of several sizes that no cup fits."""
    return talks_of_rings() + talks_with_pairs() + crowded_talks()


def has_clash(talk):
    """Whether two players beat the same one by results, or there is a ring."""
    left = talk.results
    losers = [loser for _, loser in left]
    if len(losers) > len(set(losers)):
        return True
    while left:
        winners = {winner for winner, _ in left}
        # What is beaten and beats nobody is in no ring.
        fewer = [(winner, loser) for winner, loser in left if loser in winners]
        if len(fewer) == len(left):
            return True
        left = fewer
    return False


def needs_and_slots(talk):
    """The needs and the slots of a talk, word by word as the document defines them."""
    players = range(2 ** talk.size)
    needed, given = {}, {}

    def need(player):
        if player not in needed:
            numbers = [0] + [number for one, number in talk.claims if one == player]
            beaten = [loser for winner, loser in talk.results if winner == player]
            before = None
            for loser in sorted(beaten, key=lambda one: (need(one), one)):
                before = need(loser) if before is None else max(need(loser), before + 1)
                given[loser] = before
                numbers.append(before + 1)
            needed[player] = max(numbers)
        return needed[player]

    needs = [need(player) for player in players]
    return needs, [given.get(player, needs[player]) for player in players]


def is_certificate(talk, thing):
    """Whether any object is a certificate that no cup fits, word by word as the document says it."""
    if thing.__class__ is not tuple or len(thing) not in (2, 3, 4) or thing[0].__class__ is not str:
        return False
    if (thing[0], len(thing)) == ("twice", 4):
        one, other, loser = thing[1:]
        if not all(player.__class__ is int for player in thing[1:]):
            return False
        return one < other and (one, loser) in talk.results and (other, loser) in talk.results
    players = thing[-1]
    if players.__class__ is not list or not players or not all(player.__class__ is int for player in players):
        return False
    if (thing[0], len(thing)) == ("ring", 2):
        return len(set(players)) == len(players) and set(ring(players)) <= set(talk.results)
    if (thing[0], len(thing)) == ("full", 3) and thing[1].__class__ is int and 1 <= thing[1] <= talk.size + 1:
        if players != sorted(set(players)) or not set(players) <= set(range(2 ** talk.size)) or has_clash(talk):
            return False
        given = needs_and_slots(talk)[1]
        many = 2 ** (talk.size - thing[1]) if thing[1] <= talk.size else 0
        return len(players) > many and all(given[player] >= thing[1] for player in players)
    return False


class CupTestCase(unittest.TestCase):

    def both_ways(self, function, **arguments):
        """The result of a call, which is the same by position, by name and again."""
        by_position = function(*arguments.values())
        self.assertEqual(by_position, function(**arguments))
        self.assertEqual(by_position, function(**dict(reversed(arguments.items()))))
        return by_position

    def assert_error(self, error, function, **arguments):
        """The call raises an error of exactly this class, by position and by name."""
        calls = [
            lambda: function(*arguments.values()),
            lambda: function(**arguments),
        ]
        for call in calls:
            with self.assertRaises(TalkError) as caught:
                call()
            self.assertIs(error, caught.exception.__class__, arguments)
            self.assertIsInstance(caught.exception, ValueError)

    def assert_not_fitting(self, obstacle, function, **arguments):
        """The call raises NotFitting with this obstacle, by position and by name."""
        self.assert_error(NotFitting, function, **arguments)
        for call in (lambda: function(*arguments.values()), lambda: function(**arguments)):
            with self.assertRaises(NotFitting) as caught:
                call()
            self.assertEqual(obstacle, caught.exception.obstacle)
