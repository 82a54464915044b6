"""Points 2, 3 and 6: talks."""

import itertools
import random
import unittest

from cuptalk.cups import Cup
from cuptalk.errors import InvalidClaims, InvalidNumber, InvalidPlayer, InvalidResults, InvalidSize, InvalidTalk
from cuptalk.talks import Talk
from tests.helpers import HUGE, SIZES, CupTestCase, all_claims, all_results, any_objects, nested, shuffled


def greatest(claims):
    """The greatest claim of each player, ascending, without those of 0: found by looking at all of them."""
    return [
        (player, number) for player, number in sorted(set(claims))
        if number != 0 and not any(other == player and more > number for other, more in claims)
    ]


def some_talks():
    """Talks of all sizes as tuples of size, results and claims."""
    chance = random.Random(6)
    rows = []
    for size in SIZES:
        for many in (0, 1, 5, 200):
            results = chance.choices(all_results(size), k=many) if size else []
            rows.append((size, results, chance.choices(all_claims(size), k=many)))
    return rows


class TalkPropertiesTest(CupTestCase):

    def assert_talk(self, talk, size, results, claims):
        self.assertIs(Talk, talk.__class__)
        self.assertIs(int, talk.size.__class__)
        self.assertEqual(size, talk.size)
        self.assertEqual(results, talk.results)
        self.assertEqual(claims, talk.claims)
        self.assertEqual(len(results) + len(claims), len(talk))

    def test_talks_of_all_sizes(self):
        for size, results, claims in some_talks():
            talk = self.both_ways(Talk, size=size, results=results, claims=claims)
            self.assert_talk(talk, size, sorted(set(results)), greatest(claims))

    def test_empty_talks(self):
        for size in SIZES:
            self.assert_talk(Talk(size, [], []), size, [], [])

    def test_literal_talk(self):
        talk = Talk(3, [(4, 2), (0, 1), (4, 2), (0, 5)], [(5, 1), (5, 2), (0, 0), (5, 0), (3, 3)])
        self.assert_talk(talk, 3, [(0, 1), (0, 5), (4, 2)], [(3, 3), (5, 2)])

    def test_players_and_numbers_at_their_limits(self):
        for size in SIZES:
            last = 2 ** size - 1
            claims = [(0, size), (last, 0), (last, size)]
            self.assertEqual(greatest(claims), Talk(size, [], claims).claims)
            if size:
                self.assertEqual([(0, last), (last, 0)], Talk(size, [(last, 0), (0, last)], []).results)

    def test_two_hundred_items(self):
        results = all_results(4)[:200]
        claims = all_claims(6)[:200]
        self.assert_talk(Talk(6, shuffled(results, 1), shuffled(claims, 2)), 6, results, greatest(claims))
        self.assert_talk(Talk(6, [(1, 0)] * 200, [(9, 6)] * 200), 6, [(1, 0)], [(9, 6)])
        self.assert_talk(Talk(6, [], [(9, 0)] * 200), 6, [], [])

    def test_claims_of_nothing_and_lesser_claims_vanish_in_any_sequence(self):
        for claims in itertools.permutations([(1, 0), (1, 2), (1, 1), (0, 0), (2, 1)]):
            self.assertEqual([(1, 2), (2, 1)], Talk(2, [], list(claims)).claims)

    def test_results_may_contradict_each_other(self):
        results = [(0, 1), (1, 0), (1, 2), (2, 0), (3, 0)]
        self.assertEqual(results, Talk(2, results, []).results)

    def test_properties_cannot_be_set(self):
        talk = Talk(2, [(0, 1)], [(0, 1)])
        for name in ("size", "results", "claims"):
            with self.assertRaises(AttributeError):
                setattr(talk, name, 0)
        self.assert_talk(talk, 2, [(0, 1)], [(0, 1)])

    def test_given_lists_are_neither_changed_nor_kept(self):
        results, claims = [(2, 1), (0, 1), (2, 1)], [(2, 0), (1, 1), (1, 2)]
        talk = Talk(2, results, claims)
        self.assertEqual([(2, 1), (0, 1), (2, 1)], results)
        self.assertEqual([(2, 0), (1, 1), (1, 2)], claims)
        results.append((3, 0))
        claims.clear()
        self.assert_talk(talk, 2, [(0, 1), (2, 1)], [(1, 2)])

    def test_returned_lists_are_new(self):
        talk = Talk(2, [(0, 1)], [(0, 1)])
        sums = [talk, talk + talk, talk.with_result(0, 1), talk.with_claim(0, 1), talk + Talk(2, [], [])]
        for one in sums:
            self.assertIsNot(one.results, one.results)
            self.assertIsNot(one.claims, one.claims)
            one.results.append((2, 3))
            one.claims.clear()
        for one in sums:
            self.assert_talk(one, 2, [(0, 1)], [(0, 1)])

    def test_what_a_talk_returns_makes_it_again(self):
        for size, results, claims in some_talks():
            talk = Talk(size, results, claims)
            self.assertEqual(talk, Talk(talk.size, talk.results, talk.claims))


class TalkSignsTest(CupTestCase):

    def test_shuffled_lists_give_equal_talks(self):
        for size, results, claims in some_talks():
            talk = Talk(size, results, claims)
            for seed in range(3):
                other = Talk(size, shuffled(results, seed), shuffled(claims, seed))
                self.assertTrue(talk == other)
                self.assertFalse(talk != other)

    def test_different_talks_are_not_equal(self):
        talks = [
            Talk(2, [], []), Talk(3, [], []), Talk(2, [(0, 1)], []), Talk(2, [(1, 0)], []), Talk(3, [(0, 1)], []),
            Talk(2, [], [(0, 1)]), Talk(2, [], [(0, 2)]), Talk(2, [], [(1, 1)]), Talk(2, [(0, 1)], [(0, 1)]),
        ]
        for one, other in itertools.product(range(len(talks)), repeat=2):
            self.assertIs(one == other, talks[one] == talks[other])
            self.assertIs(one != other, talks[one] != talks[other])

    def test_equal_to_no_other_object(self):
        talk = Talk(2, [(0, 1)], [(0, 1)])
        for thing in any_objects() + [Cup([0, 1, 2, 3]), [talk], (talk,), {"talk": talk}]:
            self.assertIs(False, talk == thing)
            self.assertIs(True, talk != thing)

    def test_in_tells_results(self):
        talk = Talk(2, [(0, 1), (3, 2), (1, 0)], [(2, 1), (1, 2)])
        for pair in itertools.product(range(-1, 5), repeat=2):
            self.assertIs(pair in [(0, 1), (3, 2), (1, 0)], pair in talk)
            self.assertIs(pair not in [(0, 1), (3, 2), (1, 0)], pair not in talk)

    def test_in_takes_any_object(self):
        talk = Talk(2, [(0, 1), (1, 0)], [])
        # By its text, because (0, True) is equal to (0, 1).
        things = [thing for thing in any_objects() if repr(thing) != "(0, 1)"]
        wrong = [
            (0, True), (False, 1), (False, True), (True, False), (True, 0), [0, 1], [1, 0], (0, 1, 2), (0,), ((0, 1),),
            ("0", "1"), "01", (0, HUGE), (HUGE, -HUGE), (talk, talk), (None, 1), ([0], [1]), talk, talk.results,
        ]
        for thing in things + wrong:
            self.assertIs(False, thing in talk, thing)
        self.assertIs(True, (0, 1) in talk)

    def test_in_an_empty_talk(self):
        for size in SIZES:
            for thing in any_objects():
                self.assertIs(False, thing in Talk(size, [], [(0, size)]))

    def test_sums(self):
        rows = some_talks()
        for size, results, claims in rows:
            for also_size, more_results, more_claims in rows:
                if size != also_size:
                    continue
                one, other = Talk(size, results, claims), Talk(size, more_results, more_claims)
                both = one + other
                self.assertIs(Talk, both.__class__)
                self.assertEqual(size, both.size)
                self.assertEqual(sorted(set(results + more_results)), both.results)
                self.assertEqual(greatest(claims + more_claims), both.claims)
                self.assertEqual(len(both.results) + len(both.claims), len(both))
                self.assertEqual(both, other + one)
                self.assertEqual(one, Talk(size, results, claims))
                self.assertEqual(other, Talk(size, more_results, more_claims))

    def test_sums_take_the_greater_claim(self):
        both = Talk(3, [(0, 1)], [(0, 1), (1, 3), (2, 2)]) + Talk(3, [(0, 1), (1, 2)], [(0, 2), (1, 1), (3, 1)])
        self.assertEqual([(0, 1), (1, 2)], both.results)
        self.assertEqual([(0, 2), (1, 3), (2, 2), (3, 1)], both.claims)

    def test_sums_with_more_than_two_hundred_results(self):
        results = all_results(5)
        total = Talk(5, [], [])
        for at in range(0, len(results), 200):
            total = total + Talk(5, results[at:at + 200], [])
        self.assertEqual(results, total.results)
        self.assertEqual(992, len(total))
        self.assertEqual(993, len(total.with_claim(31, 5)))
        self.assertEqual(total, total + total)
        self.assertEqual(total, total.with_result(3, 2))
        self.assertIn((31, 30), total)
        self.assert_error(InvalidResults, Talk, size=5, results=total.results, claims=[])

    def test_only_talks_of_the_same_size_are_added(self):
        for size in SIZES:
            talk = Talk(size, [], [(0, size)])
            things = [thing for thing in any_objects() if not isinstance(thing, Talk)]
            things += [Talk(other, [], []) for other in SIZES if other != size]
            for thing in things + [Cup(list(range(2 ** size))), [talk]]:
                self.assert_error(InvalidTalk, lambda thing: talk + thing, thing=thing)
            self.assertEqual(Talk(size, [], [(0, size)]), talk)


class TalkWithMoreTest(CupTestCase):

    def test_with_a_new_result(self):
        for size, results, claims in some_talks():
            if size == 0:
                continue
            talk = Talk(size, results, claims)
            for one, other in all_results(size)[::7]:
                more = self.both_ways(talk.with_result, one=one, other=other)
                self.assertIs(Talk, more.__class__)
                self.assertEqual(size, more.size)
                self.assertEqual(sorted(set(results + [(one, other)])), more.results)
                self.assertEqual(greatest(claims), more.claims)
            self.assertEqual(Talk(size, results, claims), talk)

    def test_with_a_known_result(self):
        talk = Talk(2, [(0, 1), (2, 3)], [(0, 1)])
        self.assertEqual(talk, self.both_ways(talk.with_result, one=2, other=3))
        self.assertEqual(4, len(talk.with_result(3, 2)))

    def test_with_a_claim(self):
        for size, results, claims in some_talks():
            talk = Talk(size, results, claims)
            for player, number in all_claims(size)[::5]:
                more = self.both_ways(talk.with_claim, player=player, number=number)
                self.assertIs(Talk, more.__class__)
                self.assertEqual(size, more.size)
                self.assertEqual(sorted(set(results)), more.results)
                self.assertEqual(greatest(claims + [(player, number)]), more.claims)
            self.assertEqual(Talk(size, results, claims), talk)

    def test_with_a_known_claim(self):
        talk = Talk(3, [(0, 1)], [(0, 2)])
        for player, number in ((0, 0), (0, 1), (0, 2), (7, 0)):
            self.assertEqual(talk, self.both_ways(talk.with_claim, player=player, number=number))
        self.assertEqual([(0, 3)], talk.with_claim(0, 3).claims)
        self.assertEqual([(0, 2), (1, 1)], talk.with_claim(1, 1).claims)

    def test_more_than_two_hundred_one_by_one(self):
        talk = Talk(4, all_results(4)[:200], [])
        for one, other in all_results(4):
            talk = talk.with_result(one, other)
        for player in range(16):
            talk = talk.with_claim(player, 1)
        self.assertEqual(all_results(4), talk.results)
        self.assertEqual(256, len(talk))

    def test_invalid_players(self):
        for size in SIZES:
            talk = Talk(size, [], [(0, size)])
            last = 2 ** size - 1
            for wrong in (-1, last + 1, HUGE, -HUGE, True, False):
                self.assert_error(InvalidPlayer, talk.with_result, one=wrong, other=last)
                self.assert_error(InvalidPlayer, talk.with_result, one=last, other=wrong)
                self.assert_error(InvalidPlayer, talk.with_result, one=wrong, other=wrong)
                self.assert_error(InvalidPlayer, talk.with_claim, player=wrong, number=size)
                self.assert_error(InvalidPlayer, talk.with_claim, player=wrong, number=size + 1)
            for player in range(last + 1):
                self.assert_error(InvalidPlayer, talk.with_result, one=player, other=player)
            self.assertEqual(Talk(size, [], [(0, size)]), talk)

    def test_invalid_numbers(self):
        for size in SIZES:
            talk = Talk(size, [], [(0, size)])
            for number in (-1, size + 1, HUGE, -HUGE, True, False):
                self.assert_error(InvalidNumber, talk.with_claim, player=2 ** size - 1, number=number)
            self.assertEqual(Talk(size, [], [(0, size)]), talk)


class TalkErrorsTest(CupTestCase):

    def wrong_sizes(self):
        right = [thing for thing in any_objects() if thing.__class__ is int and 0 <= thing <= 6]
        self.assertEqual([0, 1], right)
        return [thing for thing in any_objects() if thing.__class__ is not int or thing not in right]

    def test_wrong_sizes(self):
        for size in self.wrong_sizes() + [-1, 7, 8, True, False, HUGE, "3", [3], (3,), None]:
            self.assert_error(InvalidSize, Talk, size=size, results=[], claims=[])

    def test_what_is_no_list_of_results(self):
        things = [thing for thing in any_objects() if thing not in ([], [(0, 1)])]
        for thing in things + [((0, 1),), (), {}, "", None, 0, Talk(2, [], [])]:
            self.assert_error(InvalidResults, Talk, size=2, results=thing, claims=[])

    def test_what_is_no_list_of_claims(self):
        things = [thing for thing in any_objects() if thing not in ([], [(0, 1)])]
        for thing in things + [((0, 1),), (), {}, "", None, 0, Talk(2, [], [])]:
            self.assert_error(InvalidClaims, Talk, size=2, results=[], claims=thing)

    def test_one_wrong_result(self):
        right = [(0, 1), (2, 3), (7, 0)]
        wrong = [
            [0, 1], (0,), (0, 1, 2), (), (1, 1), (8, 0), (0, 8), (-1, 0), (0, -1), (True, 2), (2, True), (False, True),
            (0, None), ("0", "1"), "01", 0, True, None, {}, {"0": 1}, (0, HUGE), (HUGE, 0), ((0, 1), (2, 3)), nested(),
            Talk(3, [], []), Cup([0, 1]), (Cup([0]), 1), ([0], [1]),
        ]
        for item in wrong:
            for at in range(4):
                results = right[:at] + [item] + right[at:]
                self.assert_error(InvalidResults, Talk, size=3, results=results, claims=[])

    def test_one_wrong_claim(self):
        right = [(0, 1), (2, 3), (7, 0), (1, 1)]
        wrong = [
            [0, 1], (0,), (0, 1, 2), (), (8, 0), (-1, 0), (0, 4), (0, -1), (True, 2), (2, True), (0, False), (False, 0),
            (0, None), ("0", "1"), "01", 0, True, None, {}, {"0": 1}, (0, HUGE), (HUGE, 0), ((0, 1), (2, 3)), nested(),
            Talk(3, [], []), Cup([0, 1]), (Cup([0]), 1), ([0], [1]),
        ]
        for item in wrong:
            for at in range(5):
                claims = right[:at] + [item] + right[at:]
                self.assert_error(InvalidClaims, Talk, size=3, results=[], claims=claims)

    def test_limits_go_with_the_size(self):
        for size in SIZES:
            many = 2 ** size
            self.assert_error(InvalidResults, Talk, size=size, results=[(0, many)], claims=[])
            self.assert_error(InvalidResults, Talk, size=size, results=[(many, 0)], claims=[])
            self.assert_error(InvalidClaims, Talk, size=size, results=[], claims=[(many, 0)])
            self.assert_error(InvalidClaims, Talk, size=size, results=[], claims=[(0, size + 1)])
        self.assert_error(InvalidResults, Talk, size=0, results=[(0, 0)], claims=[])

    def test_two_hundred_and_one_items(self):
        self.assert_error(InvalidResults, Talk, size=6, results=all_results(6)[:201], claims=[])
        self.assert_error(InvalidResults, Talk, size=6, results=[(0, 1)] * 201, claims=[])
        self.assert_error(InvalidClaims, Talk, size=6, results=[], claims=all_claims(6)[:201])
        self.assert_error(InvalidClaims, Talk, size=6, results=[], claims=[(0, 0)] * 201)

    def test_the_first_invalid_argument_decides(self):
        for size in (-1, 7, True, None, HUGE):
            self.assert_error(InvalidSize, Talk, size=size, results=[(0, 0)], claims=[(0, 99)])
            self.assert_error(InvalidSize, Talk, size=size, results=None, claims=[])
            self.assert_error(InvalidSize, Talk, size=size, results=[], claims=())
        for results in (None, [(0, 0)], [(0, 1)] * 201, ((0, 1),)):
            for claims in (None, [(0, 9)], [(0, 0)] * 201, ()):
                self.assert_error(InvalidResults, Talk, size=2, results=results, claims=claims)
        talk = Talk(2, [], [])
        self.assert_error(InvalidPlayer, talk.with_claim, player=4, number=3)

    def test_invalid_arguments_are_not_changed(self):
        results, claims = [(1, 0), (0, 1), (0, 0)], [(1, 1), (0, 0), (0, 9)]
        self.assert_error(InvalidResults, Talk, size=2, results=results, claims=claims)
        self.assertEqual([(1, 0), (0, 1), (0, 0)], results)
        self.assert_error(InvalidClaims, Talk, size=2, results=[], claims=claims)
        self.assertEqual([(1, 1), (0, 0), (0, 9)], claims)


if __name__ == "__main__":
    unittest.main()
