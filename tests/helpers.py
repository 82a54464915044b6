"""What several tests need: a way to call by position and by name, any objects, and cups that are played."""

import random
import unittest

from cuptalk.cups import Cup
from cuptalk.errors import TalkError
from cuptalk.talks import Talk

SIZES = range(7)
HUGE = 10 ** 59


def nested():
    """A list that is nested 5 deep, with all kinds of objects in it."""
    return [(0, 1), {"a": [{"b": (True, [None, "x"])}]}, Talk(1, [], []), Cup([0])]


def any_objects():
    """Objects of all kinds, none of them a talk or a cup of more than two players."""
    return [
        -1, 0, 1, 7, 8, HUGE, -HUGE, True, False, None, "", "0", "0>1", [], [0], [True], [[]], [()], [(0,)], (), (0,),
        (0, 1), (0, True), (False, 1), (0, 1, 2), [0, 1], ["0", "1"], ("0", "1"), {}, {"size": 1}, {"0": 1},
        [(0, 1)], [[0, 1]], ((0, 1),), [(0, None)], nested(), tuple(nested()), [None] * 1000,
        Talk(0, [], []), Talk(1, [(0, 1)], [(0, 1)]), Cup([0]), Cup([1, 0]),
    ]


class Played:
    """A cup that is played round by round, with everything written down on the way."""

    def __init__(self, size, seed):
        chance = random.Random(seed)
        left = list(range(2 ** size))
        self.size = size
        self.rounds = []
        self.conqueror = {}
        self.beaten = {player: [] for player in left}
        self.round_of = {}
        for number in range(1, size + 1):
            chance.shuffle(left)
            stage = [(left[at], left[at + 1]) for at in range(0, len(left), 2)]
            for winner, loser in stage:
                self.conqueror[loser] = winner
                self.beaten[winner].append(loser)
                self.round_of[winner, loser] = self.round_of[loser, winner] = number
            self.rounds.append(stage)
            left = [winner for winner, _ in stage]
        self.champion = left[0]
        self.conqueror[self.champion] = None

    def order(self):
        return self.part(self.champion, self.size)

    def part(self, player, number):
        """T(player, number), word by word as the document defines it."""
        if number == 0:
            return [player]
        other = self.beaten[player][number - 1]
        return self.part(player, number - 1) + self.part(other, number - 1)

    def results(self):
        return [pair for stage in self.rounds for pair in stage]


def played_cups():
    return [Played(size, seed) for size in SIZES for seed in range(5)]


def shuffled(items, seed):
    mixed = list(items)
    random.Random(seed).shuffle(mixed)
    return mixed


class CupTestCase(unittest.TestCase):

    def both_ways(self, function, **arguments):
        """The result of a call, which is the same by position, by name and again."""
        by_position = function(*arguments.values())
        self.assertEqual(by_position, function(**arguments))
        self.assertEqual(by_position, function(**dict(reversed(arguments.items()))))
        return by_position

    def assert_error(self, error, function, **arguments):
        """The call raises an error of exactly this class, by position and by name."""
        calls = [
            lambda: function(*arguments.values()),
            lambda: function(**arguments),
        ]
        for call in calls:
            with self.assertRaises(TalkError) as caught:
                call()
            self.assertIs(error, caught.exception.__class__, arguments)
            self.assertIsInstance(caught.exception, ValueError)
