"""Points 3, 4, 8, 9 and 10 against all cups that there are: 1, 1 * 2, 1 * 2 * 3 * 4 orders, and more for 8 players."""

import itertools
import random
import unittest

from cuptalk.cups import Cup
from cuptalk.errors import InvalidNumber
from cuptalk.meetings import certain_results, conquerors, could_beat, could_meet, rounds_of
from cuptalk.slots import cup_for, cup_with, obstacle
from cuptalk.talks import Talk
from cuptalk.wins import champions, greatest_wins, least_wins, sure_champion, wins_table
from tests.helpers import CupTestCase, Played, all_claims, all_results, is_certificate, shuffled, talk_of_played


class AllCups:
    """All cups of a size by their numbers: in which ones who won how often, and who beat whom in which round."""

    def __init__(self, size):
        self.size = size
        self.players = range(2 ** size)
        self.orders = list(itertools.permutations(self.players))
        self.numbers = {order: at for at, order in enumerate(self.orders)}
        self.wins = {(player, number): set() for player in self.players for number in range(size + 1)}
        self.beats = {(*pair, number): set() for pair in all_results(size) for number in range(1, size + 1)}
        for at, order in enumerate(self.orders):
            self.play(at, order)

    def play(self, at, order):
        """In each round of an order, the first one of each part of it beat the first one of the next part."""
        won = dict.fromkeys(order, 0)
        for number in range(1, self.size + 1):
            step = 2 ** number
            for begin in range(0, len(order), step):
                winner, loser = order[begin], order[begin + step // 2]
                won[winner] += 1
                self.beats[winner, loser, number].add(at)
        for player, number in won.items():
            self.wins[player, number].add(at)

    def fitting(self, talk):
        """The numbers of the cups that fit a talk."""
        left = set(range(len(self.orders)))
        for winner, loser in talk.results:
            left &= set().union(*[self.beats[winner, loser, number] for number in range(1, self.size + 1)])
        for player, number in talk.claims:
            left &= set().union(*[self.wins[player, more] for more in range(number, self.size + 1)])
        return left


class AllCupsTest(CupTestCase):

    def assert_told(self, world, talk):
        """All answers for a talk are those that the list of all cups gives."""
        left = world.fitting(talk)
        self.assertIs(bool(left), obstacle(talk) is None, (talk.results, talk.claims))
        if left:
            self.assertIn(world.numbers[tuple(cup_for(talk).order)], left)
            self.assertIs(True, cup_for(talk)(talk))
            self.assert_wins(world, talk, left)
            self.assert_meetings(world, talk, left)
        else:
            self.assertTrue(is_certificate(talk, obstacle(talk)))
            self.assert_not_fitting(obstacle(talk), cup_for, talk=talk)
            self.assert_not_fitting(obstacle(talk), certain_results, talk=talk)

    def assert_wins(self, world, talk, left):
        table = []
        for player in world.players:
            numbers = [number for number in range(world.size + 1) if left & world.wins[player, number]]
            # R2: the numbers of wins have no gaps.
            self.assertEqual(list(range(numbers[0], numbers[-1] + 1)), numbers)
            table.append((numbers[0], numbers[-1]))
            self.assertEqual(numbers[0], least_wins(talk, player))
            self.assertEqual(numbers[-1], greatest_wins(talk, player))
            for number in range(-1, world.size + 2):
                if number in numbers:
                    cup = cup_with(talk, player, number)
                    self.assertIn(world.numbers[tuple(cup.order)], left & world.wins[player, number])
                    self.assertIs(True, cup(talk))
                else:
                    self.assert_error(InvalidNumber, cup_with, talk=talk, player=player, number=number)
        found = [player for player in world.players if left & world.wins[player, world.size]]
        self.assertEqual(table, wins_table(talk))
        self.assertEqual(found, champions(talk))
        self.assertEqual(found[0] if len(found) == 1 else None, sure_champion(talk))

    def assert_meetings(self, world, talk, left):
        certain = []
        beaten = {player: [] for player in world.players}
        for one, other in all_results(world.size):
            parts = [left & world.beats[one, other, number] for number in range(1, world.size + 1)]
            rounds = [number for number, part in enumerate(parts, 1) if part]
            self.assertIs(rounds != [], could_beat(talk, one, other))
            # R3: there are no gaps here, either.
            self.assertEqual((rounds[0], rounds[-1]) if rounds else None, rounds_of(talk, one, other))
            self.assertEqual(list(range(rounds[0], rounds[-1] + 1)) if rounds else [], rounds)
            if rounds:
                beaten[other].append(one)
            if sum(map(len, parts)) == len(left):
                certain.append((one, other))
        for one, other in itertools.product(world.players, repeat=2):
            self.assertIs(one in beaten[other] or other in beaten[one], could_meet(talk, one, other))
        for player in world.players:
            self.assertIs(False, could_beat(talk, player, player))
            self.assertIsNone(rounds_of(talk, player, player))
            self.assertEqual(beaten[player], conquerors(talk, player))
        self.assertEqual(certain, certain_results(talk))

    def test_the_list_of_all_cups(self):
        for size, many in ((0, 1), (1, 2), (2, 24)):
            world = AllCups(size)
            self.assertEqual(many, len(world.orders))
            for at, order in enumerate(world.orders):
                cup = Cup(list(order))
                for player in world.players:
                    self.assertIn(at, world.wins[player, cup.wins(player)])
                for number, stage in enumerate(cup.rounds(), 1):
                    for winner, loser in stage:
                        self.assertIn(at, world.beats[winner, loser, number])
                self.assertEqual({at}, world.fitting(cup.talk()))

    def test_size_0(self):
        for claims in ([], [(0, 0)]):
            self.assert_told(AllCups(0), Talk(0, [], claims))

    def test_all_talks_of_size_1(self):
        world = AllCups(1)
        for results in ([], [(0, 1)], [(1, 0)], [(0, 1), (1, 0)]):
            for numbers in itertools.product((0, 1), repeat=2):
                self.assert_told(world, Talk(1, results, list(enumerate(numbers))))

    def test_all_claims_of_size_2(self):
        world = AllCups(2)
        for numbers in itertools.product((0, 1, 2), repeat=4):
            self.assert_told(world, Talk(2, [], list(enumerate(numbers))))

    def test_up_to_two_results_and_one_claim_of_size_2(self):
        world = AllCups(2)
        for many in (1, 2):
            for results in itertools.combinations(all_results(2), many):
                for player, number in all_claims(2):
                    if number or not player:
                        self.assert_told(world, Talk(2, list(results), [(player, number)]))

    def test_three_results_of_size_2(self):
        world = AllCups(2)
        for results in itertools.combinations(all_results(2), 3):
            self.assert_told(world, Talk(2, list(results), []))

    def test_some_talks_of_size_3(self):
        world = AllCups(3)
        chance = random.Random(51)
        for seed in range(45):
            talk = talk_of_played(Played(3, seed), chance.choice((0.3, 0.5, 0.7)), seed)
            self.assert_told(world, talk)
            self.assert_told(world, talk.with_claim(chance.randrange(8), chance.randint(1, 3)))
            self.assert_told(world, talk.with_result(*shuffled(range(8), seed)[:2]))


if __name__ == "__main__":
    unittest.main()
