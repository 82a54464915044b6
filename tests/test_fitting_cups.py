"""Points 2, 4 and 8: the cups that are made for talks."""

import random
import unittest

from cuptalk.cups import Cup
from cuptalk.errors import InvalidNumber, InvalidPlayer
from cuptalk.slots import cup_for, cup_with, needs, obstacle
from cuptalk.talks import Talk
from tests.helpers import (
    HUGE, SIZES, CupTestCase, Played, all_claims, crowded_talks, fitting_talks, is_certificate, misfits, shuffled,
    summed,
)


def few(players, seed):
    """All players of small cups, some of larger ones."""
    return shuffled(players, seed)[:9]


def wrong_players(size):
    return [-1, 2 ** size, 2 ** size + 1, -HUGE, HUGE, 10 * HUGE - 1]


class CupForTest(CupTestCase):

    def test_it_fits(self):
        for talk in fitting_talks():
            cup = self.both_ways(cup_for, talk=talk)
            self.assertIs(Cup, cup.__class__)
            self.assertEqual(talk.size, cup.size)
            self.assertIs(True, cup(talk))

    def test_it_fits_as_full_talks_as_there_are(self):
        for size in SIZES:
            for seed in range(10):
                mixed = shuffled(range(2 ** size), seed)
                # So many claims that there is no place left.
                claims = [(mixed[at], number) for number in range(size + 1) for at in range(2 ** (size - number))]
                talk = Talk(size, [], claims)
                self.assertIs(True, cup_for(talk)(talk))
                self.assertEqual(mixed[0], cup_for(talk).champion)

    def test_the_cup_of_all_results_is_this_cup(self):
        for size in SIZES:
            cup = Cup(Played(size, 21).order())
            self.assertEqual(cup, cup_for(cup.talk()))
            for player in few(range(2 ** size), size):
                for number in range(size + 1):
                    if number == cup.wins(player):
                        self.assertEqual(cup, cup_with(cup.talk(), player, number))
                    else:
                        self.assert_error(
                            InvalidNumber, cup_with, talk=cup.talk(), player=player, number=number)

    def test_equal_talks_have_equal_cups(self):
        for talk in fitting_talks():
            mixed = summed(talk.size, shuffled(talk.results * 2, 1), shuffled(talk.claims * 2, 2))
            self.assertEqual(cup_for(talk), cup_for(mixed))
            last = 2 ** talk.size - 1
            self.assertEqual(cup_with(talk, last, needs(talk)[last]), cup_with(mixed, last, needs(talk)[last]))

    def test_no_cup_fits(self):
        for talk in misfits():
            self.assert_not_fitting(obstacle(talk), cup_for, talk=talk)


class CupWithTest(CupTestCase):

    def assert_numbers(self, talk, player, least, greatest):
        """The numbers of wins that are made are those from the least to the greatest one, and no other ones."""
        for number in range(-2, talk.size + 3):
            arguments = {"talk": talk, "player": player, "number": number}
            if least <= number <= greatest:
                cup = self.both_ways(cup_with, **arguments)
                self.assertIs(Cup, cup.__class__)
                self.assertIs(True, cup(talk))
                self.assertEqual(number, cup.wins(player), (talk.results, talk.claims, player))
            else:
                self.assert_error(InvalidNumber, cup_with, **arguments)

    def greatest(self, talk, player):
        """The greatest number of wins that a claim may add, with a certificate that the next one may not."""
        for number in range(talk.size + 1):
            certificate = obstacle(talk.with_claim(player, number))
            if certificate is not None:
                self.assertTrue(is_certificate(talk.with_claim(player, number), certificate))
                return number - 1
        return talk.size

    def test_nothing_known(self):
        for size in SIZES:
            for player in few(range(2 ** size), size):
                self.assert_numbers(Talk(size, [], []), player, 0, size)

    def test_all_numbers_from_the_need_to_the_greatest(self):
        for talk in fitting_talks():
            for player in few(range(2 ** talk.size), talk.size):
                self.assert_numbers(talk, player, needs(talk)[player], self.greatest(talk, player))

    def test_among_those_whom_one_player_beat(self):
        # Needs 0, 0, 1, 1 and 3 give the slots 0, 1, 2, 3 and 4, so each may change places with some others.
        talk = Talk(6, [(0, 5), (0, 4), (0, 3), (0, 2), (0, 1), (6, 0)], [(3, 1), (2, 1), (1, 3)])
        for player, least, greatest in ((5, 0, 4), (4, 0, 4), (3, 1, 4), (2, 1, 4), (1, 3, 4)):
            self.assert_numbers(talk.with_claim(6, 6), player, least, greatest)
        self.assert_numbers(talk, 0, 5, 5)
        self.assert_numbers(talk, 6, 6, 6)

    def test_less_than_the_slot_where_all_places_are_taken(self):
        # 0 beat 1, 2 and 3 in rounds 1 to 3 of a cup of 8, whoever was first; all others are beaten, too.
        talk = Talk(3, [(0, 1), (0, 2), (0, 3), (2, 4), (3, 5)], [(3, 1)])
        self.assert_numbers(talk, 0, 3, 3)
        self.assert_numbers(talk, 1, 0, 0)
        self.assert_numbers(talk, 2, 1, 2)
        self.assert_numbers(talk, 3, 1, 2)

    def test_players_whom_nobody_beat(self):
        talk = Talk(3, [(0, 1), (2, 3)], [(4, 1), (5, 1)])
        for player, least, greatest in ((0, 1, 3), (2, 1, 3), (4, 1, 3), (5, 1, 3), (6, 0, 0), (7, 0, 0), (1, 0, 0)):
            self.assert_numbers(talk, player, least, greatest)

    def test_random_talks_of_forests(self):
        chance = random.Random(22)
        talks = 0
        while talks < 60:
            size = chance.choice(SIZES[2:])
            mixed = shuffled(range(2 ** size), chance.random())
            results = [(chance.choice(mixed[:at]), mixed[at]) for at in range(1, len(mixed)) if chance.random() < 0.4]
            talk = Talk(size, results, [chance.choice(all_claims(size)) for _ in range(chance.randint(0, 3))])
            if obstacle(talk) is None:
                talks += 1
                for player in few(range(2 ** size), talks)[:4]:
                    self.assert_numbers(talk, player, needs(talk)[player], self.greatest(talk, player))

    def test_numbers_far_away(self):
        for talk in fitting_talks()[::2]:
            for number in (-1, talk.size + 1, 7, 64, -HUGE, HUGE, 10 * HUGE - 1, 1 - 10 * HUGE):
                self.assert_error(InvalidNumber, cup_with, talk=talk, player=0, number=number)

    def test_no_cup_fits(self):
        for talk in misfits():
            for number in (0, talk.size, -1, talk.size + 1, HUGE):
                self.assert_not_fitting(obstacle(talk), cup_with, talk=talk, player=0, number=number)

    def test_no_such_player(self):
        for talk in fitting_talks()[::3] + misfits()[::5]:
            for player in wrong_players(talk.size):
                for number in (0, -1, HUGE):
                    self.assert_error(InvalidPlayer, cup_with, talk=talk, player=player, number=number)

    def test_arguments_are_not_changed(self):
        for talk in fitting_talks() + crowded_talks():
            same = Talk(talk.size, talk.results, talk.claims)
            for call in (lambda: cup_for(talk), lambda: cup_with(talk, 0, 0), lambda: cup_with(talk, 0, talk.size)):
                try:
                    call()
                except ValueError:
                    pass
                self.assertEqual(same, talk)


if __name__ == "__main__":
    unittest.main()
