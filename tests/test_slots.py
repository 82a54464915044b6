"""Points 2, 3, 4 and 8: obstacles, certificates, needs and slots."""

import random
import unittest

from cuptalk.cups import Cup
from cuptalk.slots import needs, obstacle, shows_obstacle, slots
from cuptalk.talks import Talk
from tests.helpers import (
    HUGE, SIZES, CupTestCase, Played, all_claims, all_results, any_objects, crowded_talks, fitting_talks, has_clash,
    is_certificate, misfits, needs_and_slots, nested, ring, shuffled, summed, talks_of_rings, talks_with_pairs,
)


def changed(certificate, talk):
    """Many objects that differ from a certificate in one place."""
    others = [-1, 0, 1, 2, talk.size, talk.size + 1, 2 ** talk.size - 1, 2 ** talk.size, HUGE, -HUGE, True, None, "0"]
    things = [list(certificate), certificate[1:], certificate[:-1], (*certificate, 0), (certificate,), [certificate]]
    for at, part in enumerate(certificate):
        for other in (*others, "twice", "ring", "full", "", "Ring", [], [other for other in others], (part,), [part]):
            things.append((*certificate[:at], other, *certificate[at + 1:]))
    players = certificate[-1]
    if isinstance(players, list):
        rows = [tuple(players), players[::-1], players + players[:1], [players], dict.fromkeys(map(str, players))]
        for at, player in enumerate(players):
            rows.append(players[:at] + players[at + 1:])
            for other in (*others, str(player), [player], (player,), player + 1, player - 1):
                rows.append([*players[:at], other, *players[at + 1:]])
                rows.append([*players[:at], other, *players[at:]])
        things.extend((*certificate[:-1], row) for row in rows)
    return things


class ObstacleTest(CupTestCase):

    def test_talks_that_fit(self):
        for talk in fitting_talks():
            self.assertIsNone(self.both_ways(obstacle, talk=talk))

    def test_talks_that_do_not_fit(self):
        for talk in misfits():
            self.assertTrue(is_certificate(talk, self.both_ways(obstacle, talk=talk)))

    def test_the_kinds(self):
        for kind, talks in (("twice", talks_with_pairs()), ("ring", talks_of_rings()), ("full", crowded_talks())):
            for talk in talks:
                certificate = obstacle(talk)
                self.assertIs(tuple, certificate.__class__)
                self.assertEqual({"twice": 4, "ring": 2, "full": 3}[kind], len(certificate))
                self.assertTrue(kind == certificate[0] or kind == "twice" and certificate[0] == "ring")

    def test_a_pair(self):
        for size in SIZES[2:]:
            self.assertEqual(("twice", 1, 3, 2), obstacle(Talk(size, [(3, 2), (1, 2)], [])))
            self.assertEqual(("twice", 0, 1, 2), obstacle(Talk(size, [(0, 2), (1, 2), (0, 3)], [(3, size)])))

    def test_rings_of_all_lengths(self):
        for many in range(2, 65):
            around = shuffled(range(64), many)[:many]
            kind, players = obstacle(Talk(6, ring(around), []))
            self.assertEqual("ring", kind)
            self.assertEqual(sorted(ring(around)), sorted(ring(players)))

    def test_a_ring_of_two(self):
        self.assertIn(obstacle(Talk(1, [(0, 1), (1, 0)], [])), [("ring", [0, 1]), ("ring", [1, 0])])

    def test_a_ring_behind_long_ways(self):
        # All ways go up from the losers: some end at a player whom nobody beat, one in a ring.
        results = [(5, 6), (6, 7), (7, 5), (7, 4), (4, 3), (1, 0), (0, 2)]
        for seed in range(20):
            names = shuffled(range(8), seed)
            talk = Talk(3, [(names[one], names[other]) for one, other in results], [])
            kind, players = obstacle(talk)
            self.assertEqual("ring", kind)
            self.assertEqual({names[5], names[6], names[7]}, set(players))
            self.assertTrue(is_certificate(talk, (kind, players)))

    def test_two_rings(self):
        talk = Talk(3, ring([0, 1, 2]) + ring([7, 5, 4]), [])
        self.assertTrue(is_certificate(talk, obstacle(talk)))

    def test_size_0(self):
        for claims in ([], [(0, 0)]):
            self.assertIsNone(obstacle(Talk(0, [], claims)))

    def test_as_many_as_there_are_places(self):
        for size in SIZES:
            for number in range(1, size + 1):
                most = 2 ** (size - number)
                claims = [(player, number) for player in shuffled(range(2 ** size), number)[:most + 1]]
                self.assertIsNone(obstacle(Talk(size, [], claims[:-1])))
                kind, stage, players = obstacle(Talk(size, [], claims))
                self.assertEqual("full", kind)
                self.assertTrue(1 <= stage <= number)
                self.assertEqual(sorted(player for player, _ in claims), players)

    def test_more_wins_than_rounds(self):
        for size in SIZES[1:]:
            talk = Talk(size, [(player, player + 1) for player in range(size)], [])
            self.assertIsNone(obstacle(talk))
            self.assertTrue(is_certificate(talk.with_claim(size, 1), obstacle(talk.with_claim(size, 1))))

    def test_all_results_of_a_cup_and_one_more(self):
        for size in SIZES[1:5]:
            played = Played(size, 11)
            talk = Talk(size, played.results(), [])
            for one, other in all_results(size):
                more = talk.with_result(one, other)
                self.assertEqual(played.conqueror[other] == one, obstacle(more) is None)
            for player, number in all_claims(size):
                more = talk.with_claim(player, number)
                self.assertEqual(number <= len(played.beaten[player]), obstacle(more) is None)

    def test_talks_of_more_than_200_results(self):
        for size in SIZES[4:]:
            for seed in range(3):
                results = shuffled(all_results(size), seed)[:200 + 10 ** seed]
                talk = summed(size, results, shuffled(all_claims(size), seed))
                self.assertGreater(len(talk.results), 200)
                self.assertTrue(is_certificate(talk, obstacle(talk)))
                self.assertTrue(shows_obstacle(talk, obstacle(talk)))

    def test_random_talks_without_pairs(self):
        chance = random.Random(12)
        kinds = []
        for _ in range(400):
            size = chance.choice(SIZES[1:])
            losers = shuffled(range(2 ** size), chance.random())[:chance.randint(0, 2 ** size)]
            results = [(chance.randrange(2 ** size), loser) for loser in losers]
            claims = [chance.choice(all_claims(size)) for _ in range(chance.randint(0, 3))]
            talk = Talk(size, [pair for pair in results if pair[0] != pair[1]], claims)
            certificate = obstacle(talk)
            kinds.append(certificate and certificate[0])
            if certificate is None:
                self.assertFalse(has_clash(talk))
                given = needs_and_slots(talk)[1]
                self.assertLessEqual(max(given), size)
                for number in range(1, size + 1):
                    self.assertLessEqual(len([slot for slot in given if slot >= number]), 2 ** (size - number))
            else:
                self.assertTrue(is_certificate(talk, certificate))
        self.assertEqual({None, "ring", "full"}, set(kinds))


class CertificateTest(CupTestCase):

    def assert_shows(self, talk, thing):
        shown = self.both_ways(shows_obstacle, talk=talk, thing=thing)
        self.assertIs(is_certificate(talk, thing), shown, (talk.size, talk.results, talk.claims, thing))

    def test_obstacles_show_what_they_are(self):
        for talk in misfits():
            self.assertIs(True, self.both_ways(shows_obstacle, talk=talk, thing=obstacle(talk)))

    def test_obstacles_of_other_talks(self):
        talks = misfits()
        for talk in fitting_talks()[::3] + talks[::5]:
            for other in talks[::3]:
                self.assert_shows(talk, obstacle(other))

    def test_one_change(self):
        for talk in misfits()[::4] + crowded_talks()[:5]:
            for thing in changed(obstacle(talk), talk):
                self.assert_shows(talk, thing)

    def test_any_other_object(self):
        things = any_objects() + [
            ("twice",), ("ring",), ("full",), ("twice", 0, 1), ("ring", []), ("full", 1, []), ("full", 0, []),
            (0, "ring"), ("twice", [0], [1], [2]), ("twice", nested(), nested(), nested()), ("ring", nested()),
            ("full", nested(), nested()), ("full", 1, nested()), "ring", "twice", {"ring": [0, 1]}, ("ring", "01"),
            (Talk(0, [], []), [0, 1]), (Cup([0]), 0, 1, 2), (["ring"], [0, 1]), (None, None), ("ring", None),
            ("ring", {"0": 1}), ("full", 1, {"0": 1}), ("ring", Talk(1, [], [])), ("full", 1, Cup([0, 1])),
            ("ring", [[0], [1]]), ("full", 1, [[0]]), ("full", HUGE, [0]), ("full", -HUGE, [0]), ("full", -1, [0]),
        ]
        for talk in fitting_talks()[:9] + misfits()[::6]:
            for thing in things:
                self.assertIs(False, self.both_ways(shows_obstacle, talk=talk, thing=thing))

    def test_pairs(self):
        talk = Talk(2, [(0, 2), (1, 2), (3, 2), (1, 0)], [])
        for one, other, loser in ((0, 1, 2), (0, 3, 2), (1, 3, 2)):
            self.assertIs(True, shows_obstacle(talk, ("twice", one, other, loser)))
            self.assertIs(False, shows_obstacle(talk, ("twice", other, one, loser)))
            self.assertIs(False, shows_obstacle(talk, ["twice", one, other, loser]))
        for one, other, loser in ((0, 0, 2), (1, 1, 2), (0, 1, 3), (1, 2, 0), (False, 1, 2), (0, True, 2)):
            self.assertIs(False, shows_obstacle(talk, ("twice", one, other, loser)))

    def test_a_ring_from_any_beginning(self):
        for many in (2, 3, 5, 8):
            around = shuffled(range(8), many)[:many]
            talk = Talk(3, ring(around), [])
            for at in range(many):
                turned = around[at:] + around[:at]
                self.assertIs(True, shows_obstacle(talk, ("ring", turned)))
                self.assertIs(many == 2, shows_obstacle(talk, ("ring", turned[::-1])))
                self.assertIs(False, shows_obstacle(talk, ("ring", tuple(turned))))
                self.assertIs(False, shows_obstacle(talk, ("ring", turned + turned)))
                self.assertIs(False, shows_obstacle(talk, ("ring", turned[1:])))

    def test_a_way_that_goes_around_with_a_player_twice_is_no_ring(self):
        talk = Talk(2, [(0, 1), (1, 0), (1, 2), (2, 1)], [])
        self.assertIs(True, shows_obstacle(talk, ("ring", [0, 1])))
        self.assertIs(True, shows_obstacle(talk, ("ring", [2, 1])))
        self.assertIs(False, shows_obstacle(talk, ("ring", [0, 1, 2, 1])))

    def test_a_ring_where_there_are_pairs(self):
        talk = Talk(2, [(0, 1), (1, 0), (2, 0)], [])
        self.assertIs(True, shows_obstacle(talk, ("ring", [1, 0])))
        self.assertIs(True, shows_obstacle(talk, ("twice", 1, 2, 0)))

    def test_full_ones(self):
        # The slots are 3, 0, 1 and 2, for 2, 1 and no places.
        talk = Talk(2, [(0, 1), (0, 2), (0, 3)], [])
        for number, players in ((1, [0, 2, 3]), (2, [0, 3]), (3, [0])):
            self.assertIs(True, shows_obstacle(talk, ("full", number, players)))
            self.assertIs(False, shows_obstacle(talk, ("full", number, tuple(players))))
            self.assertIs(False, shows_obstacle(talk, ["full", number, players]))
            self.assertIs(False, shows_obstacle(talk, ("full", number, players[1:])))
            self.assertIs(False, shows_obstacle(talk, ("full", number + 1, players)))
            self.assertIs(False, shows_obstacle(talk, ("full", number, [*players, players[-1]])))
        for number, players in (
            (1, [0, 1, 2]), (1, [3, 2, 0]), (2, [0, 2]), (2, [3, 0]), (3, [3]), (3, [0, 3]), (4, [0]), (0, [0, 1, 2, 3]),
            (1, [0, 2, 4]), (1, [-1, 0, 2, 3]), (True, [0, 2, 3]), (1, [False, 2, 3]), (1, [0, 2, 2, 3]), (3, []),
        ):
            self.assertIs(False, shows_obstacle(talk, ("full", number, players)), (number, players))

    def test_a_full_one_with_more_players_than_are_needed(self):
        talk = Talk(3, [], [(player, 2) for player in range(1, 8)])
        self.assertIs(True, shows_obstacle(talk, ("full", 2, list(range(1, 8)))))
        self.assertIs(True, shows_obstacle(talk, ("full", 2, [2, 5, 7])))
        self.assertIs(True, shows_obstacle(talk, ("full", 1, [1, 2, 3, 5, 7])))
        self.assertIs(False, shows_obstacle(talk, ("full", 2, [2, 5])))
        self.assertIs(False, shows_obstacle(talk, ("full", 2, list(range(8)))))
        self.assertIs(False, shows_obstacle(talk, ("full", 1, [1, 2, 3, 5])))

    def test_a_full_one_where_there_are_pairs_or_rings(self):
        crowd = Talk(2, [], [(0, 1), (1, 1), (2, 1)])
        self.assertIs(True, shows_obstacle(crowd, ("full", 1, [0, 1, 2])))
        for results in ([(0, 3), (1, 3)], [(0, 1), (1, 0)], [(3, 0), (0, 1), (1, 3)]):
            talk = crowd + Talk(2, results, [])
            self.assertIs(False, shows_obstacle(talk, ("full", 1, [0, 1, 2])))
            self.assertIs(True, shows_obstacle(talk, obstacle(talk)))

    def test_nothing_is_shown_where_a_cup_fits(self):
        for talk in fitting_talks():
            players = list(range(2 ** talk.size))
            for number in range(talk.size + 2):
                self.assertIs(False, shows_obstacle(talk, ("full", number, players)))
            self.assertIs(False, shows_obstacle(talk, ("ring", players)))
            self.assertIs(False, shows_obstacle(talk, ("ring", [])))


class NeedsTest(CupTestCase):

    def assert_needs_and_slots(self, talk, needed, given):
        self.assertEqual(needed, self.both_ways(needs, talk=talk))
        self.assertEqual(given, self.both_ways(slots, talk=talk))

    def test_nothing_known(self):
        for size in SIZES:
            self.assert_needs_and_slots(Talk(size, [], []), [0] * 2 ** size, [0] * 2 ** size)

    def test_claims_alone(self):
        talk = Talk(3, [], [(6, 2), (6, 1), (1, 3), (0, 1)])
        self.assert_needs_and_slots(talk, [1, 3, 0, 0, 0, 0, 2, 0], [1, 3, 0, 0, 0, 0, 2, 0])

    def test_equal_needs_in_the_order_of_the_players(self):
        talk = Talk(3, [(3, 7), (3, 0), (3, 5)], [])
        self.assert_needs_and_slots(talk, [0, 0, 0, 3, 0, 0, 0, 0], [0, 0, 0, 3, 0, 1, 0, 2])

    def test_needs_come_before_players(self):
        talk = Talk(3, [(0, 1), (0, 2), (0, 3)], [(1, 1)])
        self.assert_needs_and_slots(talk, [3, 1, 0, 0, 0, 0, 0, 0], [3, 2, 0, 1, 0, 0, 0, 0])

    def test_a_gap_between_the_needs(self):
        talk = Talk(4, [(0, 1), (0, 2), (0, 3)], [(2, 2)])
        self.assert_needs_and_slots(talk, [3, 0, 2] + [0] * 13, [3, 0, 2, 1] + [0] * 12)
        talk = Talk(4, [(0, 1), (0, 2), (0, 3)], [(2, 2), (1, 2)])
        self.assert_needs_and_slots(talk, [4, 2, 2] + [0] * 13, [4, 2, 3] + [0] * 13)

    def test_a_claim_greater_than_what_was_beaten(self):
        talk = Talk(3, [(0, 1), (2, 0)], [(0, 2)])
        self.assert_needs_and_slots(talk, [2, 0, 3, 0, 0, 0, 0, 0], [2, 0, 3, 0, 0, 0, 0, 0])

    def test_a_tree_worked_out_by_hand(self):
        # 1 beats 8 and 9; 2 beats 10; 0 beats 1 (need 2), 2 (need 1), 3 (need 0) and 4 (need 1, by a claim).
        results = [(1, 8), (1, 9), (2, 10), (0, 1), (0, 2), (0, 3), (0, 4)]
        talk = Talk(4, results, [(4, 1), (11, 1)])
        needed = [4, 2, 1, 0, 1, 0, 0, 0, 0, 0, 0, 1, 0, 0, 0, 0]
        given = [4, 3, 1, 0, 2, 0, 0, 0, 0, 1, 0, 1, 0, 0, 0, 0]
        self.assert_needs_and_slots(talk, needed, given)

    def test_more_than_the_size(self):
        # Also if no cup fits because of too many slots, and far beyond the size.
        chain = Talk(6, [(player, player + 1) for player in range(63)], [])
        self.assert_needs_and_slots(chain, list(range(63, -1, -1)), list(range(63, -1, -1)))
        star = Talk(6, [(63, player) for player in range(63)], [(5, 6)])
        given = list(range(5)) + [62] + list(range(5, 62))
        needed = [0] * 5 + [6] + [0] * 57 + [63]
        self.assert_needs_and_slots(star, needed, given + [63])
        self.assert_needs_and_slots(Talk(1, [(0, 1)], [(1, 1)]), [2, 1], [2, 1])

    def test_all_talks_without_clash(self):
        for talk in fitting_talks() + crowded_talks():
            self.assert_needs_and_slots(talk, *needs_and_slots(talk))

    def test_random_forests(self):
        chance = random.Random(13)
        for _ in range(150):
            size = chance.choice(SIZES)
            mixed = shuffled(range(2 ** size), chance.random())
            results = [(chance.choice(mixed[:at]), mixed[at]) for at in range(1, len(mixed)) if chance.random() < 0.8]
            talk = Talk(size, results, chance.choices(all_claims(size), k=chance.randint(0, 5)))
            self.assert_needs_and_slots(talk, *needs_and_slots(talk))

    def test_results_of_whole_cups(self):
        for size in SIZES:
            played = Played(size, 14)
            won = [len(played.beaten[player]) for player in range(2 ** size)]
            self.assert_needs_and_slots(Talk(size, played.results(), []), won, won)

    def test_pairs_and_rings(self):
        for talk in talks_of_rings() + talks_with_pairs():
            self.assertIn(obstacle(talk)[0], ("twice", "ring"))
            self.assert_not_fitting(obstacle(talk), needs, talk=talk)
            self.assert_not_fitting(obstacle(talk), slots, talk=talk)


class SlotListsTest(CupTestCase):

    def test_returned_lists_are_new(self):
        talk = Talk(2, [(0, 1), (0, 2)], [(3, 1)])
        for function in (needs, slots):
            told = function(talk)
            self.assertIsNot(told, function(talk))
            self.assertIsNot(needs(talk), slots(talk))
            before = list(told)
            told[0] = 9
            told.append(9)
            self.assertEqual(before, function(talk))

    def test_returned_certificates_are_new(self):
        for talk in (Talk(1, [(0, 1), (1, 0)], []), Talk(1, [], [(0, 1), (1, 1)])):
            certificate = obstacle(talk)
            before = (*certificate[:-1], list(certificate[-1]))
            certificate[-1].append(9)
            self.assertEqual(before, obstacle(talk))
            self.assertIs(False, shows_obstacle(talk, certificate))
            self.assertIs(True, shows_obstacle(talk, before))

    def test_arguments_are_not_changed(self):
        for talk in misfits()[::7] + fitting_talks()[::5]:
            same = summed(talk.size, talk.results, talk.claims)
            certificate = obstacle(talk) or ("full", 1, [0])
            copied = (*certificate[:-1], certificate[-1][:] if isinstance(certificate[-1], list) else certificate[-1])
            shows_obstacle(talk, certificate)
            if not has_clash(talk):
                needs(talk), slots(talk)
            self.assertEqual(copied, certificate)
            self.assertEqual(same, talk)

    def test_equal_talks_have_equal_obstacles(self):
        for talk in misfits():
            mixed = summed(talk.size, shuffled(talk.results, 1), shuffled(talk.claims, 2))
            self.assertEqual(obstacle(talk), obstacle(mixed))
            self.assertEqual(obstacle(talk), obstacle(talk + mixed))


if __name__ == "__main__":
    unittest.main()
