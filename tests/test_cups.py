"""Points 2, 3 and 7: cups."""

import itertools
import random
import unittest

from cuptalk.cups import Cup
from cuptalk.errors import InvalidCup, InvalidPlayer
from cuptalk.talks import Talk
from tests.helpers import HUGE, SIZES, CupTestCase, any_objects, nested, played_cups, shuffled


class CupTest(CupTestCase):

    def assert_played(self, played, cup):
        """The cup says of itself what was written down while it was played."""
        self.assertIs(Cup, cup.__class__)
        self.assertEqual(played.order(), cup.order)
        self.assertIs(list, cup.order.__class__)
        self.assertEqual(played.size, cup.size)
        self.assertEqual(played.champion, cup.champion)
        self.assertEqual([sorted(stage) for stage in played.rounds], cup.rounds())
        self.assertEqual([pair for stage in played.rounds for pair in sorted(stage)], list(cup.matches()))
        for player in range(2 ** played.size):
            self.assertEqual(len(played.beaten[player]), cup.wins(player))
            self.assertEqual(played.beaten[player], cup.beaten(player))
            self.assertEqual(played.conqueror[player], cup.conqueror(player))

    def test_by_order(self):
        for played in played_cups():
            self.assert_played(played, self.both_ways(Cup, order=played.order()))

    def test_by_rounds(self):
        for played in played_cups():
            for seed in range(3):
                rounds = [shuffled(stage, seed) for stage in played.rounds]
                self.assert_played(played, self.both_ways(Cup.of, rounds=rounds))

    def test_of_can_be_called_off_a_cup(self):
        self.assertEqual(Cup([1, 0]), Cup([0]).of([[(1, 0)]]))

    def test_literal_cups(self):
        cup = Cup([5, 4, 0, 1, 2, 3, 7, 6])
        self.assertEqual(3, cup.size)
        self.assertEqual(5, cup.champion)
        self.assertEqual([[(0, 1), (2, 3), (5, 4), (7, 6)], [(2, 7), (5, 0)], [(5, 2)]], cup.rounds())
        self.assertEqual([3, 2, 0, 0], [cup.wins(player) for player in (5, 2, 4, 6)])
        self.assertEqual([None, 5, 2, 5], [cup.conqueror(player) for player in (5, 0, 7, 4)])
        self.assertEqual([[4, 0, 2], [3, 7], []], [cup.beaten(player) for player in (5, 2, 1)])
        self.assertEqual(cup, Cup.of([[(7, 6), (5, 4), (2, 3), (0, 1)], [(5, 0), (2, 7)], [(5, 2)]]))

    def test_the_cup_of_one_player(self):
        for cup in (Cup([0]), Cup.of([])):
            self.assertEqual([0], cup.order)
            self.assertEqual((0, 0), (cup.size, cup.champion))
            self.assertEqual([], cup.rounds())
            self.assertEqual([], list(cup.matches()))
            self.assertEqual((0, None, [], None), (cup.wins(0), cup.conqueror(0), cup.beaten(0), cup.round_of(0, 0)))
            self.assertEqual(Talk(0, [], []), cup.talk())

    def test_each_list_of_all_players_is_the_order_of_one_cup(self):
        seen = set()
        for order in itertools.permutations(range(4)):
            cup = Cup(list(order))
            self.assertEqual(list(order), cup.order)
            self.assertEqual(cup, Cup.of(cup.rounds()))
            seen.add(repr(cup.rounds()))
        self.assertEqual(24, len(seen))

    def test_round_of(self):
        for played in played_cups():
            cup = Cup(played.order())
            for one, other in itertools.product(range(2 ** played.size), repeat=2):
                self.assertEqual(played.round_of.get((one, other)), cup.round_of(one, other))

    def test_players_by_position_and_by_name(self):
        cup = Cup([5, 4, 0, 1, 2, 3, 7, 6])
        self.assertEqual(2, self.both_ways(cup.wins, player=2))
        self.assertEqual(5, self.both_ways(cup.conqueror, player=2))
        self.assertIsNone(self.both_ways(cup.conqueror, player=5))
        self.assertEqual([3, 7], self.both_ways(cup.beaten, player=2))
        self.assertEqual(3, self.both_ways(cup.round_of, one=2, other=5))
        self.assertEqual(3, self.both_ways(cup.round_of, one=5, other=2))
        self.assertIsNone(self.both_ways(cup.round_of, one=5, other=7))
        self.assertIsNone(self.both_ways(cup.round_of, one=5, other=5))

    def test_equal_cups(self):
        for played in played_cups():
            cup = Cup(played.order())
            for other in (Cup(cup.order), Cup.of(cup.rounds()), cup):
                self.assertIs(True, cup == other)
                self.assertIs(False, cup != other)

    def test_different_cups(self):
        orders = [list(order) for order in itertools.permutations(range(4))] + [[0], [0, 1], [1, 0], list(range(8))]
        cups = [Cup(order) for order in orders]
        for one, other in itertools.product(range(len(cups)), repeat=2):
            self.assertIs(one == other, cups[one] == cups[other])
            self.assertIs(one != other, cups[one] != cups[other])

    def test_equal_to_no_other_object(self):
        cup = Cup([0, 1, 2, 3])
        for thing in any_objects() + [[0, 1, 2, 3], cup.talk(), cup.rounds(), [cup], (cup,), {"cup": cup}]:
            self.assertIs(False, cup == thing)
            self.assertIs(True, cup != thing)

    def test_properties_cannot_be_set(self):
        cup = Cup([2, 1, 0, 3])
        for name in ("order", "size", "champion"):
            with self.assertRaises(AttributeError):
                setattr(cup, name, 0)
        self.assertEqual(([2, 1, 0, 3], 2, 2), (cup.order, cup.size, cup.champion))


class CupListsTest(CupTestCase):

    def test_given_lists_are_neither_changed_nor_kept(self):
        order = [2, 1, 0, 3]
        cup = Cup(order)
        self.assertEqual([2, 1, 0, 3], order)
        order.reverse()
        self.assertEqual([2, 1, 0, 3], cup.order)
        rounds = [[(2, 1), (0, 3)], [(2, 0)]]
        cup = Cup.of(rounds)
        self.assertEqual([[(2, 1), (0, 3)], [(2, 0)]], rounds)
        rounds[0].clear()
        rounds.pop()
        self.assertEqual(Cup([2, 1, 0, 3]), cup)
        self.assertEqual([[(0, 3), (2, 1)], [(2, 0)]], cup.rounds())

    def test_returned_lists_are_new(self):
        cup = Cup([2, 1, 0, 3])
        cup.order.clear()
        cup.beaten(2).append(3)
        cup.beaten(3).append(2)
        cup.rounds().pop()
        for stage in cup.rounds():
            stage.clear()
        self.assertEqual([2, 1, 0, 3], cup.order)
        self.assertEqual([[1, 0], [], [3], []], [cup.beaten(player) for player in (2, 1, 0, 3)])
        self.assertEqual([[(0, 3), (2, 1)], [(2, 0)]], cup.rounds())
        self.assertEqual([(0, 3), (2, 1), (2, 0)], list(cup.matches()))

    def test_no_two_lists_are_the_same_object(self):
        cup = Cup(list(range(8)))
        lists = [cup.order, cup.order, cup.beaten(1), cup.beaten(1), cup.beaten(3), cup.rounds(), cup.rounds()]
        lists += lists[-1] + lists[-2]
        self.assertEqual(len(lists), len({id(one) for one in lists}))

    def test_matches_one_after_another(self):
        for played in played_cups():
            cup = Cup(played.order())
            expected = [pair for stage in played.rounds for pair in sorted(stage)]
            one = iter(cup.matches())
            for pair in expected:
                self.assertEqual(pair, next(one))
            self.assertEqual("end", next(one, "end"))
            self.assertEqual("end", next(one, "end"))
            self.assertEqual(2 ** played.size - 1, len(expected))

    def test_matches_run_twice_and_stopped_early(self):
        cup = Cup([2, 1, 0, 3])
        first = iter(cup.matches())
        self.assertEqual((0, 3), next(first))
        second = iter(cup.matches())
        self.assertEqual((0, 3), next(second))
        self.assertEqual((2, 1), next(first))
        self.assertEqual((2, 0), next(first))
        self.assertEqual((2, 1), next(second))
        for pair in cup.matches():
            self.assertEqual((0, 3), pair)
            break
        self.assertEqual([(0, 3), (2, 1), (2, 0)], list(cup.matches()))
        self.assertEqual([(0, 3), (2, 1), (2, 0)], list(cup.matches()))

    def test_matches_while_other_methods_are_called(self):
        cup = Cup(list(range(16)))
        expected = list(cup.matches())
        got = []
        for pair in cup.matches():
            got.append(pair)
            for stage in cup.rounds():
                stage.reverse()
            cup.talk().results.clear()
        self.assertEqual(expected, got)

    def test_talk(self):
        for played in played_cups():
            talk = Cup(played.order()).talk()
            self.assertIs(Talk, talk.__class__)
            self.assertEqual(Talk(played.size, played.results(), []), talk)
            self.assertEqual(sorted(played.results()), talk.results)
            self.assertEqual([], talk.claims)
            self.assertEqual(2 ** played.size - 1, len(talk))


class FitsTest(CupTestCase):

    def true_claims(self, played):
        return [(player, len(beaten)) for player, beaten in played.beaten.items()]

    def test_talks_that_fit(self):
        for played in played_cups():
            cup = Cup(played.order())
            chance = random.Random(played.size)
            claims = self.true_claims(played)
            lesser = [(player, chance.randint(0, number)) for player, number in claims]
            some = [pair for pair in played.results() if chance.random() < 0.5]
            for talk in (
                Talk(played.size, [], []), cup.talk(), Talk(played.size, some, lesser), Talk(played.size, [], claims),
                Talk(played.size, played.results(), claims),
            ):
                self.assertIs(True, self.both_ways(cup, thing=talk))

    def test_one_result_that_is_false_or_turned(self):
        for played in played_cups():
            cup = Cup(played.order())
            true = played.results()
            everything = itertools.permutations(range(2 ** played.size), 2)
            false = [pair for pair in everything if pair not in true]
            for pair in shuffled(false, 3)[:50] + [(loser, winner) for winner, loser in true]:
                self.assertIs(False, cup(Talk(played.size, [pair], [])), pair)
                self.assertIs(False, cup(Talk(played.size, true + [pair], [])), pair)

    def test_each_result_alone_in_a_small_cup(self):
        cup = Cup([5, 4, 0, 1, 2, 3, 7, 6])
        true = [(5, 4), (0, 1), (2, 3), (7, 6), (5, 0), (2, 7), (5, 2)]
        for pair in itertools.permutations(range(8), 2):
            self.assertIs(pair in true, cup(Talk(3, [pair], [])))

    def test_one_claim_too_high(self):
        for played in played_cups():
            cup = Cup(played.order())
            claims = self.true_claims(played)
            for player, number in claims:
                self.assertIs(True, cup(Talk(played.size, [], [(player, number)])))
                if number < played.size:
                    high = [(player, number + 1)]
                    self.assertIs(False, cup(Talk(played.size, [], high)))
                    self.assertIs(False, cup(Talk(played.size, played.results(), claims + high)))

    def test_another_size(self):
        for size, other in itertools.product(SIZES, repeat=2):
            cup = Cup(list(range(2 ** size)))
            self.assertIs(size == other, cup(Talk(other, [], [])))
            self.assertIs(size == other, cup(Talk(other, [], [(0, other)])))
            self.assertIs(size == other, cup(Cup(list(range(2 ** other))).talk()))

    def test_any_other_object(self):
        for size in SIZES:
            cup = Cup(list(range(2 ** size)))
            for thing in any_objects() + [cup, cup.order, cup.rounds(), [cup.talk()], (cup.talk(),)]:
                if not isinstance(thing, Talk):
                    self.assertIs(False, self.both_ways(cup, thing=thing))

    def test_talks_of_more_than_two_hundred_results(self):
        talk = Talk(5, [], [])
        pairs = list(itertools.permutations(range(32), 2))
        for at in range(0, len(pairs), 200):
            talk = talk + Talk(5, pairs[at:at + 200], [])
        self.assertIs(False, Cup(list(range(32)))(talk))

    def test_a_call_changes_nothing(self):
        cup, talk = Cup([0, 1, 2, 3]), Talk(2, [(0, 1)], [(2, 1)])
        self.assertIs(True, cup(talk))
        self.assertEqual(Talk(2, [(0, 1)], [(2, 1)]), talk)
        self.assertEqual(Cup([0, 1, 2, 3]), cup)


class CupErrorsTest(CupTestCase):

    def test_what_is_no_order(self):
        for thing in any_objects():
            if thing not in ([0], [0, 1]):
                self.assert_error(InvalidCup, Cup, order=thing)
        for thing in ([True], [False], [1], [False, True], [0, True], [False, 1], (0,), (0, 1), [], "0", {"0": 0}):
            self.assert_error(InvalidCup, Cup, order=thing)

    def test_orders_of_a_wrong_length(self):
        for many in range(130):
            if many not in (1, 2, 4, 8, 16, 32, 64):
                self.assert_error(InvalidCup, Cup, order=list(range(many)))

    def test_one_wrong_player_in_an_order(self):
        for size in SIZES:
            order = shuffled(range(2 ** size), size)
            last = len(order)
            for at in {0, last // 2, last - 1}:
                right = order[at]
                wrong = [-1, last, right - last, HUGE, None, str(right), [right], (right,), nested(), Cup([0])]
                wrong += [bool(right)] if right < 2 else []
                wrong += [order[at - 1]] if size else []
                for player in wrong:
                    self.assert_error(InvalidCup, Cup, order=order[:at] + [player] + order[at + 1:])
            self.assert_error(InvalidCup, Cup, order=tuple(order))
            self.assert_error(InvalidCup, Cup, order=[player for player in order if player != 0])
            self.assert_error(InvalidCup, Cup, order=order + [0])
            self.assert_error(InvalidCup, Cup, order=order + [last + 1])
            self.assert_error(InvalidCup, Cup, order=[player + 1 for player in order])

    def test_what_is_no_list_of_rounds(self):
        for thing in any_objects():
            if thing != []:
                self.assert_error(InvalidCup, Cup.of, rounds=thing)
        for thing in ((), [[]], [[], []], [[(0, 0)]], [[(1, 2)]], [[(0, 1)], []], [[], [(0, 1)]], [[0, 1]], [(0, 1)]):
            self.assert_error(InvalidCup, Cup.of, rounds=thing)

    def test_one_wrong_match(self):
        for wrong in (
            [0, 3], (0,), (0, 3, 1), (), (0, 4), (-1, 3), (3, 3), (0, 0), (0, 1), (False, 3), (0, None), ("0", "3"),
            "03", None, 0, {}, (0, HUGE), ((0, 3),), nested(), Talk(2, [], []), Cup([0, 1]), (Cup([0]), 3),
        ):
            self.assert_error(InvalidCup, Cup.of, rounds=[[(2, 1), wrong], [(2, 0)]])
            self.assert_error(InvalidCup, Cup.of, rounds=[[wrong, (2, 1)], [(2, 0)]])
            self.assert_error(InvalidCup, Cup.of, rounds=[[(2, 1), (0, 3)], [wrong]])

    def test_booleans_in_rounds(self):
        for rounds in (
            [[(True, 0)]], [[(1, False)]], [[(True, False)]], [[(2, True), (0, 3)], [(2, 0)]],
            [[(2, 1), (0, 3)], [(2, False)]], [[(1, 2), (0, 3)], [(True, 0)]],
        ):
            self.assert_error(InvalidCup, Cup.of, rounds=rounds)

    def test_tuples_in_the_place_of_lists(self):
        self.assert_error(InvalidCup, Cup.of, rounds=([(2, 1), (0, 3)], [(2, 0)]))
        self.assert_error(InvalidCup, Cup.of, rounds=[((2, 1), (0, 3)), [(2, 0)]])
        self.assert_error(InvalidCup, Cup.of, rounds=[[(2, 1), (0, 3)], ((2, 0),)])
        self.assert_error(InvalidCup, Cup.of, rounds=[[(2, 1), (0, 3)], (2, 0)])

    def test_matches_that_are_moved_turned_missing_or_too_many(self):
        for rounds in (
            [[(2, 1)], [(0, 3), (2, 0)]],
            [[(2, 1), (0, 3), (2, 0)], []],
            [[(2, 1), (0, 3), (2, 0)]],
            [[(2, 0)], [(2, 1), (0, 3)]],
            [[(1, 2), (0, 3)], [(2, 0)]],
            [[(2, 1), (3, 0)], [(2, 0)]],
            [[(2, 1), (0, 3)]],
            [[(2, 1), (0, 3)], []],
            [[(2, 1)], [(2, 0)]],
            [[(2, 1), (0, 3)], [(2, 0)], []],
            [[(2, 1), (0, 3)], [(2, 0)], [(2, 0)]],
            [[(2, 1), (0, 3)], [(2, 0), (2, 0)]],
            [[(2, 1), (2, 1)], [(2, 0)]],
            [[(2, 1), (0, 3)], [(2, 1)]],
            [[(2, 1), (0, 3)], [(3, 0)]],
            [[(2, 1), (2, 3)], [(2, 0)]],
            [[(2, 1), (0, 1)], [(2, 0)]],
        ):
            self.assert_error(InvalidCup, Cup.of, rounds=rounds)

    def test_somebody_who_is_out_plays_again(self):
        for played in played_cups():
            for number in range(1, played.size):
                out = played.rounds[0][0][1]
                winner, loser = played.rounds[number][0]
                for pair in ((out, loser), (winner, out)):
                    rounds = [list(stage) for stage in played.rounds]
                    rounds[number][0] = pair
                    self.assert_error(InvalidCup, Cup.of, rounds=rounds)

    def test_a_winner_that_is_turned_in_each_round_but_the_last(self):
        for played in played_cups():
            for number in range(played.size - 1):
                winner, loser = played.rounds[number][0]
                rounds = [list(stage) for stage in played.rounds]
                rounds[number][0] = (loser, winner)
                self.assert_error(InvalidCup, Cup.of, rounds=rounds)

    def test_too_many_players(self):
        self.assert_error(InvalidCup, Cup, order=list(range(65)))
        self.assert_error(InvalidCup, Cup, order=list(range(128)))
        left = list(range(128))
        rounds = []
        while len(left) > 1:
            rounds.append([(left[at], left[at + 1]) for at in range(0, len(left), 2)])
            left = left[::2]
        self.assertEqual(7, len(rounds))
        self.assert_error(InvalidCup, Cup.of, rounds=rounds)
        self.assertEqual(6, Cup.of([[(winner // 2, loser // 2) for winner, loser in s] for s in rounds[1:]]).size)
        self.assert_error(InvalidCup, Cup.of, rounds=[[]] * 1000)

    def test_invalid_lists_are_not_changed(self):
        order, rounds = [1, 0, 1], [[(2, 1), (0, 3)], [(3, 2)]]
        self.assert_error(InvalidCup, Cup, order=order)
        self.assert_error(InvalidCup, Cup.of, rounds=rounds)
        self.assertEqual([1, 0, 1], order)
        self.assertEqual([[(2, 1), (0, 3)], [(3, 2)]], rounds)

    def test_players_who_are_none(self):
        for size in SIZES:
            last = 2 ** size - 1
            cup = Cup(shuffled(range(last + 1), size))
            before = cup.order
            for wrong in (-1, -last - 1, last + 1, HUGE, -HUGE, True, False):
                self.assert_error(InvalidPlayer, cup.wins, player=wrong)
                self.assert_error(InvalidPlayer, cup.conqueror, player=wrong)
                self.assert_error(InvalidPlayer, cup.beaten, player=wrong)
                self.assert_error(InvalidPlayer, cup.round_of, one=wrong, other=last)
                self.assert_error(InvalidPlayer, cup.round_of, one=last, other=wrong)
                self.assert_error(InvalidPlayer, cup.round_of, one=wrong, other=wrong)
            self.assertEqual(before, cup.order)


if __name__ == "__main__":
    unittest.main()
