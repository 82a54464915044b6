"""Points 2, 4 and 9: how many matches players can have won, and who can be the champion."""

import unittest

from cuptalk.cups import Cup
from cuptalk.errors import InvalidPlayer
from cuptalk.slots import cup_with, obstacle
from cuptalk.talks import Talk
from cuptalk.wins import champions, greatest_wins, least_wins, sure_champion, wins_table
from tests.helpers import (
    HUGE, SIZES, CupTestCase, Played, fitting_talks, is_certificate, misfits, needs_and_slots, shuffled, summed,
)


class WinsTest(CupTestCase):

    def assert_wins(self, talk, table):
        """The table, and all that follows from it."""
        self.assertEqual(table, self.both_ways(wins_table, talk=talk))
        for player, (least, greatest) in enumerate(table):
            self.assertEqual(least, self.both_ways(least_wins, talk=talk, player=player))
            self.assertEqual(greatest, self.both_ways(greatest_wins, talk=talk, player=player))
        found = [player for player, (_, greatest) in enumerate(table) if greatest == talk.size]
        self.assertEqual(found, self.both_ways(champions, talk=talk))
        self.assertEqual(found[0] if len(found) == 1 else None, self.both_ways(sure_champion, talk=talk))

    def test_nothing_known(self):
        for size in SIZES:
            self.assert_wins(Talk(size, [], []), [(0, size)] * 2 ** size)

    def test_one_player(self):
        self.assert_wins(Talk(0, [], [(0, 0)]), [(0, 0)])
        self.assertEqual([0], champions(Talk(0, [], [])))
        self.assertEqual(0, sure_champion(Talk(0, [], [])))

    def test_two_players(self):
        for talk in (Talk(1, [(1, 0)], []), Talk(1, [], [(1, 1)]), Talk(1, [(1, 0)], [(1, 1)])):
            self.assert_wins(talk, [(0, 0), (1, 1)])
            self.assertEqual(1, sure_champion(talk))

    def test_whole_cups(self):
        for size in SIZES:
            cup = Cup(Played(size, 31).order())
            self.assert_wins(cup.talk(), [(cup.wins(player), cup.wins(player)) for player in range(2 ** size)])
            self.assertEqual([cup.champion], champions(cup.talk()))
            self.assertEqual(cup.champion, sure_champion(cup.talk()))

    def test_worked_out_by_hand(self):
        # 4 beat 2, who beat 0 and 1, so 2 won at least two matches, and 4 all three; half of the others won none.
        talk = Talk(3, [(2, 0), (2, 1), (4, 2)], [])
        self.assert_wins(talk, [(0, 1), (0, 1), (2, 2), (0, 1), (3, 3), (0, 1), (0, 1), (0, 1)])

    def test_claims_by_hand(self):
        talk = Talk(3, [], [(1, 1), (2, 1), (5, 1), (7, 2)])
        self.assert_wins(talk, [(0, 0), (1, 3), (1, 3), (0, 0), (0, 0), (1, 3), (0, 0), (2, 3)])
        self.assert_wins(talk.with_claim(5, 2), [(0, 0), (1, 1), (1, 1), (0, 0), (0, 0), (2, 3), (0, 0), (2, 3)])
        self.assertEqual([5, 7], champions(talk.with_claim(5, 2)))
        self.assertIsNone(sure_champion(talk.with_claim(5, 2)))
        self.assertEqual(7, sure_champion(talk.with_claim(5, 2).with_result(7, 5)))

    def test_least_and_greatest_of_all_talks(self):
        for talk in fitting_talks():
            table = wins_table(talk)
            self.assertEqual(needs_and_slots(talk)[0], [least for least, _ in table])
            for player, (_, greatest) in enumerate(table):
                self.assertIs(True, cup_with(talk, player, greatest)(talk))
                if greatest < talk.size:
                    more = talk.with_claim(player, greatest + 1)
                    self.assertTrue(is_certificate(more, obstacle(more)))
            self.assert_wins(talk, table)

    def test_someone_can_be_the_champion(self):
        for talk in fitting_talks():
            found = champions(talk)
            self.assertNotEqual([], found)
            for player in found:
                self.assertEqual(player, sure_champion(talk.with_claim(player, talk.size)))

    def test_no_cup_fits(self):
        for talk in misfits():
            for function in (wins_table, champions, sure_champion):
                self.assert_not_fitting(obstacle(talk), function, talk=talk)
            for function in (least_wins, greatest_wins):
                self.assert_not_fitting(obstacle(talk), function, talk=talk, player=2 ** talk.size - 1)

    def test_no_such_player(self):
        for talk in fitting_talks()[::3] + misfits()[::4]:
            for player in (-1, 2 ** talk.size, 2 ** talk.size + 1, -HUGE, HUGE, 10 * HUGE - 1):
                for function in (least_wins, greatest_wins):
                    self.assert_error(InvalidPlayer, function, talk=talk, player=player)

    def test_kinds_of_values(self):
        talk = Talk(2, [(3, 2)], [(0, 1)])
        self.assertIs(int, least_wins(talk, 0).__class__)
        self.assertIs(int, greatest_wins(talk, 0).__class__)
        self.assertIs(list, wins_table(talk).__class__)
        self.assertEqual({tuple}, {row.__class__ for row in wins_table(talk)})
        self.assertIs(list, champions(talk).__class__)

    def test_returned_lists_are_new(self):
        talk = Talk(2, [(3, 2)], [(0, 1)])
        for function in (wins_table, champions):
            told = function(talk)
            before = list(told)
            self.assertIsNot(told, function(talk))
            told.clear()
            self.assertEqual(before, function(talk))

    def test_returned_obstacles_are_new(self):
        talk = Talk(1, [(0, 1), (1, 0)], [])
        for function in (wins_table, champions, sure_champion):
            before = ("ring", list(obstacle(talk)[1]))
            try:
                function(talk)
            except ValueError as error:
                error.obstacle[1].clear()
            self.assert_not_fitting(before, function, talk=talk)

    def test_equal_talks_have_equal_answers(self):
        for talk in fitting_talks()[::2]:
            mixed = summed(talk.size, shuffled(talk.results * 2, 1), shuffled(talk.claims * 2, 2))
            same = summed(talk.size, talk.results, talk.claims)
            self.assertEqual(wins_table(talk), wins_table(mixed))
            self.assertEqual(champions(talk), champions(mixed))
            self.assertEqual(sure_champion(talk), sure_champion(mixed))
            self.assertEqual(same, talk)
            self.assertEqual(same, mixed)


if __name__ == "__main__":
    unittest.main()
