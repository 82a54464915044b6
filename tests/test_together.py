"""Points 2, 3, 4, 8, 9 and 10: what the document says over several calls together."""

import random
import unittest

from cuptalk.cups import Cup
from cuptalk.meetings import certain_results, conquerors, could_beat, could_meet, rounds_of
from cuptalk.slots import cup_for, cup_with, needs, obstacle, shows_obstacle, slots
from cuptalk.talks import Talk
from cuptalk.wins import champions, least_wins, sure_champion, wins_table
from tests.helpers import (
    SIZES, CupTestCase, Played, all_claims, all_results, crowded_talks, fitting_talks, has_clash, misfits, shuffled,
    summed, talk_of_played,
)


def renamed(talk, names, size=None):
    """The same talk in which each player has another name, also a name in cups of another size."""
    results = [(names[one], names[other]) for one, other in talk.results]
    claims = [(names[player], number) for player, number in talk.claims]
    return summed(talk.size if size is None else size, results, claims)


def halves(low, high):
    """Two talks of equal size as one of the next size: the first players are those of the one, then come the others."""
    size, half = low.size + 1, 2 ** low.size
    return renamed(low, range(half), size) + renamed(high, range(half, 2 * half), size)


def steps(talk, seed):
    """Talks with one result or claim more than a talk."""
    results = shuffled(all_results(talk.size), seed)[:6]
    claims = shuffled(all_claims(talk.size), seed)[:6]
    return [talk.with_result(*pair) for pair in results] + [talk.with_claim(*claim) for claim in claims]


class MoreIsKnownTest(CupTestCase):

    def test_no_need_becomes_less(self):
        for talk in fitting_talks() + crowded_talks():
            for more in steps(talk, 61):
                if not has_clash(more):
                    for before, after in zip(needs(talk), needs(more)):
                        self.assertLessEqual(before, after)
                    for before, after in zip(sorted(slots(talk)), sorted(slots(more))):
                        self.assertLessEqual(before, after)

    def test_no_more_wins_become_possible(self):
        for talk in fitting_talks():
            table = wins_table(talk)
            for more in steps(talk, 62)[::3]:
                if obstacle(more) is None:
                    for (least, greatest), (new_least, new_greatest) in zip(table, wins_table(more)):
                        self.assertTrue(least <= new_least <= new_greatest <= greatest)
                    self.assertLessEqual(set(champions(more)), set(champions(talk)))
                    if sure_champion(talk) is not None:
                        self.assertEqual(sure_champion(talk), sure_champion(more))

    def test_no_more_meetings_become_possible(self):
        for talk in fitting_talks():
            for at, more in enumerate(steps(talk, 63)[::2]):
                if obstacle(more) is None:
                    player = at * 5 % 2 ** talk.size
                    self.assertLessEqual(set(conquerors(more, player)), set(conquerors(talk, player)))
                    for one in shuffled(range(2 ** talk.size), at)[:5]:
                        if could_beat(more, one, player):
                            first, last = rounds_of(talk, one, player)
                            new_first, new_last = rounds_of(more, one, player)
                            self.assertTrue(first <= new_first <= new_last <= last)
                        if could_meet(more, one, player):
                            self.assertIs(True, could_meet(talk, one, player))
                    if talk.size <= 4:
                        self.assertLessEqual(set(certain_results(talk)), set(certain_results(more)))

    def test_what_does_not_fit_never_fits_again(self):
        for talk in misfits()[::2]:
            for more in steps(talk, 64):
                self.assertIsNotNone(obstacle(more))

    def test_a_pair_or_a_ring_stays_one(self):
        for talk in misfits():
            certificate = obstacle(talk)
            for more in steps(talk, 65):
                # Those who are too many may be other ones, where a need changes the order of the needs.
                if certificate[0] != "full":
                    self.assertIs(True, shows_obstacle(more, certificate))

    def test_what_is_claimed_then_is_true(self):
        for talk in fitting_talks():
            for player, (least, greatest) in list(enumerate(wins_table(talk)))[:8]:
                for number in range(talk.size + 1):
                    self.assertIs(number <= greatest, obstacle(talk.with_claim(player, number)) is None)
                self.assertEqual(least, least_wins(talk.with_claim(player, least), player))
                self.assertEqual(greatest, least_wins(talk.with_claim(player, greatest), player))


class HalvesTest(CupTestCase):

    def test_two_talks_as_the_halves_of_a_larger_one(self):
        for size in SIZES[:6]:
            half = 2 ** size
            for seed in range(4):
                low = talk_of_played(Played(size, seed), 0.5, seed)
                high = talk_of_played(Played(size, seed + 10), 0.7, seed)
                both = halves(low, high)
                self.assertEqual(needs(low) + needs(high), needs(both))
                self.assertEqual(slots(low) + slots(high), slots(both))
                self.assertIsNone(obstacle(both))
                joined = Cup(cup_for(low).order + [player + half for player in cup_for(high).order])
                self.assertIs(True, joined(both))
                table = wins_table(low) + wins_table(high)
                for (least, greatest), (new_least, new_greatest) in zip(table, wins_table(both), strict=True):
                    self.assertEqual(least, new_least)
                    self.assertLessEqual(greatest, new_greatest)

    def test_halves_that_are_played_to_their_ends(self):
        for size in SIZES[:6]:
            half = 2 ** size
            low, high = Cup(Played(size, 66).order()), Cup(Played(size, 67).order())
            both = halves(low.talk(), high.talk())
            finals = [low.champion, high.champion + half]
            self.assertEqual(finals, champions(both))
            self.assertEqual((size + 1, size + 1), rounds_of(both, *finals))
            self.assertEqual(finals[:1], conquerors(both, finals[1]))
            won = [low.wins(player) for player in range(half)] + [high.wins(player) for player in range(half)]
            for player, numbers in enumerate(wins_table(both)):
                self.assertEqual((won[player], won[player] + (player in finals)), numbers)
            joined = Cup(low.order + [player + half for player in high.order])
            self.assertEqual(joined, cup_for(both.with_result(*finals)))

    def test_a_pair_or_a_ring_in_one_half(self):
        for talk in misfits():
            if talk.size < 6 and has_clash(talk):
                nothing = Talk(talk.size, [], [])
                self.assertIs(True, shows_obstacle(halves(talk, nothing), obstacle(talk)))
                self.assertIsNotNone(obstacle(halves(talk, nothing)))
                self.assertIsNotNone(obstacle(halves(nothing, talk)))


class RenamedTest(CupTestCase):

    def test_needs_and_slots(self):
        for talk in fitting_talks() + crowded_talks():
            names = shuffled(range(2 ** talk.size), 68)
            other = renamed(talk, names)
            self.assertEqual(needs(talk), [needs(other)[name] for name in names])
            # Equal needs change places, so only all slots together are the same.
            self.assertEqual(sorted(slots(talk)), sorted(slots(other)))

    def test_obstacles(self):
        for talk in misfits():
            names = shuffled(range(2 ** talk.size), 69)
            certificate = obstacle(renamed(talk, names))
            back = {name: player for player, name in enumerate(names)}
            if certificate[0] == "twice":
                one, other, loser = [back[name] for name in certificate[1:]]
                self.assertIs(True, shows_obstacle(talk, ("twice", min(one, other), max(one, other), loser)))
            elif certificate[0] == "ring":
                self.assertIs(True, shows_obstacle(talk, ("ring", [back[name] for name in certificate[1]])))
            else:
                self.assertEqual("full", obstacle(talk)[0])
                self.assertEqual(len(certificate[2]), len(obstacle(talk)[2]))

    def test_wins_and_meetings(self):
        chance = random.Random(70)
        for talk in fitting_talks():
            names = shuffled(range(2 ** talk.size), 71)
            other = renamed(talk, names)
            self.assertIsNone(obstacle(other))
            table = wins_table(other)
            self.assertEqual(wins_table(talk), [table[name] for name in names])
            self.assertEqual(sorted(names[player] for player in champions(talk)), champions(other))
            for _ in range(9):
                one, two = chance.randrange(2 ** talk.size), chance.randrange(2 ** talk.size)
                self.assertEqual(rounds_of(talk, one, two), rounds_of(other, names[one], names[two]))
                self.assertEqual(could_meet(talk, one, two), could_meet(other, names[one], names[two]))
                found = sorted(names[player] for player in conquerors(talk, one))
                self.assertEqual(found, conquerors(other, names[one]))
            if talk.size <= 4:
                found = sorted((names[one], names[two]) for one, two in certain_results(talk))
                self.assertEqual(found, certain_results(other))


class WholeCupTest(CupTestCase):

    def test_all_results_of_a_cup(self):
        for size in SIZES:
            for seed in range(3):
                cup = Cup(Played(size, 80 + seed).order())
                talk = cup.talk()
                won = [cup.wins(player) for player in range(2 ** size)]
                self.assertEqual(won, needs(talk))
                self.assertEqual(won, slots(talk))
                self.assertEqual([(number, number) for number in won], wins_table(talk))
                self.assertEqual(cup, cup_for(talk))
                for player in shuffled(range(2 ** size), seed)[:8]:
                    self.assertEqual(cup, cup_with(talk, player, won[player]))
                    found = [] if player == cup.champion else [cup.conqueror(player)]
                    self.assertEqual(found, conquerors(talk, player))

    def test_cups_that_are_made_fit_their_own_talks(self):
        for talk in fitting_talks():
            cup = cup_for(talk)
            self.assertIsNone(obstacle(talk + cup.talk()))
            self.assertEqual(cup, cup_for(talk + cup.talk()))
            for player, (least, greatest) in enumerate(wins_table(talk)):
                self.assertTrue(least <= cup.wins(player) <= greatest)
            for winner, loser in list(cup.matches())[:9]:
                first, last = rounds_of(talk, winner, loser)
                self.assertTrue(first <= cup.round_of(winner, loser) <= last)


if __name__ == "__main__":
    unittest.main()
