"""Points 2, 4 and 10: who can have beaten whom, in which rounds, and which results are certain."""

import itertools
import unittest

from cuptalk.cups import Cup
from cuptalk.errors import InvalidPlayer, TooLarge
from cuptalk.meetings import certain_results, conquerors, could_beat, could_meet, rounds_of
from cuptalk.slots import cup_for, cup_with, obstacle
from cuptalk.talks import Talk
from tests.helpers import (
    HUGE, SIZES, CupTestCase, Played, all_results, fitting_talks, is_certificate, misfits, ring, shuffled, summed,
)

OF_TWO = (could_beat, rounds_of, could_meet)


def pairs(size, seed):
    """All pairs of players of small cups, some of larger ones, players with themselves too."""
    return shuffled(itertools.product(range(2 ** size), repeat=2), seed)[:64]


class MeetingsTest(CupTestCase):

    def assert_pair(self, talk, one, other, rounds):
        """What is told of two players, where these are the rounds in which one can have beaten other, or None."""
        pair = {"talk": talk, "one": one, "other": other}
        self.assertEqual(rounds, self.both_ways(rounds_of, **pair), (talk.results, talk.claims, one, other))
        self.assertIs(rounds is not None, self.both_ways(could_beat, **pair))
        back = {"talk": talk, "one": other, "other": one}
        meet = could_beat(talk, one, other) or could_beat(talk, other, one)
        self.assertIs(meet, self.both_ways(could_meet, **pair))
        self.assertIs(meet, self.both_ways(could_meet, **back))

    def test_nothing_known(self):
        for size in SIZES:
            talk = Talk(size, [], [])
            for one, other in pairs(size, size):
                self.assert_pair(talk, one, other, None if one == other else (1, size))
            for player in range(2 ** size):
                others = [one for one in range(2 ** size) if one != player]
                self.assertEqual(others, self.both_ways(conquerors, talk=talk, player=player))

    def test_whole_cups(self):
        for size in SIZES:
            cup = Cup(Played(size, 41).order())
            talk = cup.talk()
            for one, other in pairs(size, size):
                met = cup.round_of(one, other) if cup.conqueror(other) == one else None
                self.assert_pair(talk, one, other, met and (met, met))
            for player in range(2 ** size):
                found = [] if player == cup.champion else [cup.conqueror(player)]
                self.assertEqual(found, self.both_ways(conquerors, talk=talk, player=player))
            if size <= 4:
                self.assertEqual(talk.results, self.both_ways(certain_results, talk=talk))

    def test_players_with_themselves(self):
        for talk in fitting_talks():
            for player in shuffled(range(2 ** talk.size), 3)[:4]:
                self.assert_pair(talk, player, player, None)
                self.assertNotIn(player, conquerors(talk, player))

    def test_somebody_else_beat_the_player(self):
        talk = Talk(3, [(0, 1), (2, 3)], [])
        self.assertEqual([0], conquerors(talk, 1))
        self.assertEqual([2], conquerors(talk, 3))
        for one in (1, 2, 3, 4, 7):
            self.assert_pair(talk, one, 1, None)
        self.assert_pair(talk, 0, 1, (1, 3))
        self.assertIs(True, could_meet(talk, 0, 2))
        self.assertIs(False, could_meet(talk, 1, 2 + 1))

    def test_nobody_beats_whom_it_lost_to(self):
        talk = Talk(3, [(0, 1), (1, 2), (2, 3)], [])
        for one, other in ((1, 0), (2, 0), (3, 0), (3, 1), (2, 1), (0, 2), (0, 3)):
            self.assert_pair(talk, one, other, None)
        self.assert_pair(talk, 0, 1, (3, 3))
        self.assert_pair(talk, 1, 2, (2, 2))
        self.assert_pair(talk, 2, 3, (1, 1))
        for player in (0, 1, 2, 3):
            self.assertEqual([player - 1] if player else [], conquerors(talk, player))

    def test_rounds_worked_out_by_hand(self):
        # Only two players win two matches, 0 and 5, so they meet in the last round; if 0 wins there, it has won three.
        talk = Talk(3, [(0, 1), (0, 2)], [(5, 2)])
        self.assert_pair(talk, 0, 1, (1, 2))
        self.assert_pair(talk, 0, 5, (3, 3))
        self.assert_pair(talk, 5, 0, (3, 3))
        self.assert_pair(talk, 0, 3, None)
        self.assert_pair(talk, 1, 3, (1, 1))
        self.assert_pair(talk, 5, 1, None)
        self.assert_pair(talk, 5, 3, (1, 2))
        self.assert_pair(talk, 3, 4, (1, 1))
        self.assert_pair(talk, 3, 0, None)
        self.assert_pair(talk, 3, 5, None)
        self.assertEqual([0], conquerors(talk, 5))
        self.assertEqual([5], conquerors(talk, 0))
        self.assertEqual([1, 2, 4, 5, 6, 7], conquerors(talk, 3))
        self.assertEqual([(0, 1), (0, 2)], certain_results(talk))
        self.assertEqual([(0, 1), (0, 2), (5, 0)], certain_results(talk.with_claim(5, 3)))

    def test_two_rounds_at_once_need_not_be_possible_together(self):
        talk = Talk(2, [(0, 1), (0, 2)], [])
        self.assert_pair(talk, 0, 1, (1, 2))
        self.assert_pair(talk, 0, 2, (1, 2))
        self.assertEqual((2, 2), rounds_of(talk.with_claim(1, 1), 0, 1))
        self.assertEqual((1, 1), rounds_of(talk.with_claim(1, 1), 0, 2))

    def test_all_rounds_between(self):
        for talk in fitting_talks():
            for one, other in pairs(talk.size, 5)[:20]:
                rounds = rounds_of(talk, one, other)
                self.assert_pair(talk, one, other, rounds)
                if rounds is None:
                    more = [*talk.results, (one, other)]
                    if one != other:
                        certificate = obstacle(summed(talk.size, more, talk.claims))
                        self.assertTrue(is_certificate(summed(talk.size, more, talk.claims), certificate))
                    continue
                first, last = rounds
                self.assertTrue(1 <= first <= last <= talk.size)
                for number in range(first, last + 1):
                    cup = cup_with(talk.with_result(one, other), other, number - 1)
                    self.assertIs(True, cup(talk))
                    self.assertEqual((one, number), (cup.conqueror(other), cup.round_of(one, other)))
                for number in (first - 2, last):
                    with self.assertRaises(ValueError):
                        cup_with(talk.with_result(one, other), other, number)

    def test_conquerors_are_those_who_could_beat(self):
        for talk in fitting_talks():
            players = range(2 ** talk.size)
            for player in shuffled(players, 6)[:5]:
                found = [one for one in players if could_beat(talk, one, player)]
                self.assertEqual(found, self.both_ways(conquerors, talk=talk, player=player))

    def test_no_such_player(self):
        for talk in fitting_talks()[::4] + misfits()[::4]:
            last = 2 ** talk.size - 1
            for wrong in (-1, last + 1, last + 2, -HUGE, HUGE, 10 * HUGE - 1):
                for function in OF_TWO:
                    for one, other in ((wrong, 0), (0, wrong), (wrong, wrong), (wrong, last), (last, wrong)):
                        self.assert_error(InvalidPlayer, function, talk=talk, one=one, other=other)
                self.assert_error(InvalidPlayer, conquerors, talk=talk, player=wrong)

    def test_no_cup_fits(self):
        for talk in misfits():
            last = 2 ** talk.size - 1
            for one, other in ((0, last), (last, 0), (0, 0), (last, last)):
                for function in OF_TWO:
                    self.assert_not_fitting(obstacle(talk), function, talk=talk, one=one, other=other)
            self.assert_not_fitting(obstacle(talk), conquerors, talk=talk, player=last)

    def test_kinds_of_values(self):
        talk = Talk(3, [(0, 1), (0, 2)], [(5, 2)])
        rounds = rounds_of(talk, 0, 1)
        self.assertIs(tuple, rounds.__class__)
        self.assertEqual({int}, {number.__class__ for number in rounds})
        self.assertIs(list, conquerors(talk, 3).__class__)
        self.assertIs(list, certain_results(talk).__class__)
        self.assertEqual({tuple}, {pair.__class__ for pair in certain_results(talk)})


class CertainResultsTest(CupTestCase):

    def test_nothing_known(self):
        for size in SIZES[:5]:
            self.assertEqual([], self.both_ways(certain_results, talk=Talk(size, [], [])))

    def test_results_are_certain(self):
        for talk in fitting_talks():
            if talk.size <= 4:
                found = self.both_ways(certain_results, talk=talk)
                self.assertEqual(sorted(set(found)), found)
                self.assertLessEqual(set(talk.results), set(found))

    def test_certain_without_a_result(self):
        self.assertEqual([(1, 0)], certain_results(Talk(1, [], [(1, 1)])))
        # 0 is the champion and 3 won a match, so they met in the last round; whom they beat before is open.
        self.assertEqual([(0, 3)], certain_results(Talk(2, [], [(0, 2), (3, 1)])))
        # 0 beat 1, so 2 and 3 met in the same round; if 3 won it and lost, 0 beat it.
        self.assertEqual([(0, 1), (0, 3), (3, 2)], certain_results(Talk(2, [(0, 1), (3, 2)], [(0, 2)])))
        self.assertEqual([(0, 1), (3, 2)], certain_results(Talk(2, [(0, 1), (3, 2)], [])))

    def test_one_result_is_left_open(self):
        for size in SIZES[1:5]:
            cup = Cup(Played(size, 42).order())
            for at, (winner, loser) in enumerate(cup.talk().results):
                results = cup.talk().results
                del results[at]
                found = certain_results(Talk(size, results, []))
                # If this was the last match that the winner won, the loser can change places with it or with another one.
                certain = [] if cup.beaten(winner)[-1] == loser else [(winner, loser)]
                self.assertEqual(sorted(results + certain), found)

    def test_no_cup_that_fits_is_without_them(self):
        for talk in fitting_talks():
            if talk.size <= 4:
                found = certain_results(talk)
                cups = [cup_for(talk)]
                for one, other in all_results(talk.size):
                    if could_beat(talk, one, other):
                        cups.append(cup_for(talk.with_result(one, other)))
                for player in range(2 ** talk.size):
                    cups.append(cup_with(talk, player, max(len(cup.beaten(player)) for cup in cups)))
                common = set(all_results(talk.size))
                for cup in cups:
                    common &= set(cup.talk().results)
                self.assertLessEqual(set(found), common)
                # For each other one there is a cup in which somebody else won, or the loser is the champion.
                for winner, loser in common - set(found):
                    others = [one for one in conquerors(talk, loser) if one != winner]
                    self.assertTrue(others or obstacle(talk.with_claim(loser, talk.size)) is None)

    def test_too_large(self):
        for size in (5, 6):
            cup = Cup(Played(size, 43).order())
            for talk in (Talk(size, [], []), cup.talk(), Talk(size, ring([0, 1]), []), Talk(size, [(0, 2), (1, 2)], [])):
                self.assert_error(TooLarge, certain_results, talk=talk)
        for talk in misfits():
            if talk.size > 4:
                self.assert_error(TooLarge, certain_results, talk=talk)

    def test_no_cup_fits(self):
        for talk in misfits():
            if talk.size <= 4:
                self.assert_not_fitting(obstacle(talk), certain_results, talk=talk)

    def test_returned_lists_are_new(self):
        talk = Talk(2, [(0, 1), (3, 2)], [(0, 2)])
        told = certain_results(talk)
        self.assertIsNot(told, certain_results(talk))
        told.clear()
        self.assertEqual([(0, 1), (0, 3), (3, 2)], certain_results(talk))
        told = conquerors(talk, 1)
        self.assertIsNot(told, conquerors(talk, 1))
        told.clear()
        self.assertEqual([0], conquerors(talk, 1))
        self.assertEqual(Talk(2, [(0, 1), (3, 2)], [(0, 2)]), talk)

    def test_equal_talks_have_equal_answers(self):
        for talk in fitting_talks()[::2]:
            same = summed(talk.size, talk.results, talk.claims)
            mixed = summed(talk.size, shuffled(talk.results * 2, 1), shuffled(talk.claims * 2, 2))
            for one, other in pairs(talk.size, 7)[:9]:
                for function in OF_TWO:
                    self.assertEqual(function(talk, one, other), function(mixed, one, other))
                self.assertEqual(conquerors(talk, one), conquerors(mixed, one))
            if talk.size <= 4:
                self.assertEqual(certain_results(talk), certain_results(mixed))
            self.assertEqual(same, talk)
            self.assertEqual(same, mixed)


if __name__ == "__main__":
    unittest.main()
