"""Points 2, 3 and 11: counting the cups for some claims."""

import bisect
import itertools
import math
import random
import unittest

from cuptalk.counting import count_cups, cup_index, nth_cup
from cuptalk.cups import Cup
from cuptalk.errors import InvalidClaims, InvalidCup, InvalidNumber, InvalidSize
from cuptalk.slots import cup_for
from cuptalk.talks import Talk
from tests.helpers import (
    HUGE, SIZES, CupTestCase, Played, all_claims, any_objects, numbers_of_wins, orders_for, shuffled,
)


def claims_of_all_kinds(size):
    """For each player each number of claimed wins, none among them: all that claims can say."""
    for numbers in itertools.product(range(size + 1), repeat=2 ** size):
        yield list(enumerate(numbers))


def drawn_claims(size, seed):
    """Claims that are true in a cup, some of them twice or for less, and so many that not too many cups fit."""
    chance = random.Random(seed)
    played = Played(size, seed)
    claims = []
    for player, beaten in played.beaten.items():
        if chance.random() < 0.6:
            claims.append((player, chance.randint(0, len(beaten))))
    return shuffled(claims + claims[::3], seed)


def many_claims():
    """Claims of all sizes that some cup fits, none among them."""
    rows = [(size, []) for size in SIZES]
    rows += [(size, drawn_claims(size, seed)) for size in SIZES for seed in range(4)]
    for size in SIZES:
        played = Played(size, 12)
        rows.append((size, [(player, len(beaten)) for player, beaten in played.beaten.items()]))
    return rows


class AllCupsCountedTest(CupTestCase):

    def assert_listed(self, size, claims, orders):
        """The fitting cups are those that have these orders, in this sequence."""
        self.assertEqual(len(orders), self.both_ways(count_cups, size=size, claims=claims))
        for index, order in enumerate(orders):
            cup = self.both_ways(nth_cup, size=size, claims=claims, index=index)
            self.assertIs(Cup, cup.__class__)
            self.assertEqual(order, cup.order)
            self.assertEqual(index, self.both_ways(cup_index, size=size, claims=claims, cup=Cup(order)))
        for index in (-1, -len(orders), -len(orders) - 1, len(orders), len(orders) + 1, HUGE, -HUGE):
            if not 0 <= index < len(orders):
                self.assert_error(InvalidNumber, nth_cup, size=size, claims=claims, index=index)

    def test_sizes_0_to_2(self):
        for size, many in ((0, 1), (1, 2), (2, 24)):
            self.assertEqual(many, len(orders_for(size, [])))
            self.assert_listed(size, [], orders_for(size, []))
            for claims in claims_of_all_kinds(size):
                orders = orders_for(size, claims)
                self.assert_listed(size, shuffled(claims, size), orders)
                for order in orders_for(size, []):
                    if order not in orders:
                        self.assert_error(InvalidCup, cup_index, size=size, claims=claims, cup=Cup(order))

    def test_cups_of_size_2_by_hand(self):
        cups = [[0, 1, 2, 3], [0, 1, 3, 2], [0, 2, 1, 3], [0, 2, 3, 1], [0, 3, 1, 2], [0, 3, 2, 1]]
        self.assert_listed(2, [(0, 2)], cups)
        self.assert_listed(2, [(0, 2), (3, 1), (3, 0)], [[0, 1, 3, 2], [0, 2, 3, 1]])
        self.assert_listed(2, [(3, 1), (0, 1)], [[0, 1, 3, 2], [0, 2, 3, 1], [3, 1, 0, 2], [3, 2, 0, 1]])
        self.assert_listed(2, [(0, 1), (1, 1), (2, 1)], [])
        self.assert_listed(2, [(1, 2), (2, 2)], [])

    def test_size_3(self):
        orders = orders_for(3, [])
        self.assertEqual(40320, count_cups(3, []))
        self.assertEqual(40320, len(orders))
        for index in [0, 1, 40318, 40319] + random.Random(1).choices(range(40320), k=50):
            self.assertEqual(orders[index], nth_cup(3, [], index).order)
            self.assertEqual(index, cup_index(3, [], Cup(orders[index])))

    def test_claims_of_size_3(self):
        chance = random.Random(2)
        for seed in range(30):
            claims = drawn_claims(3, seed) if seed % 3 else chance.choices(all_claims(3), k=seed // 4)
            orders = orders_for(3, claims)
            self.assertEqual(len(orders), count_cups(3, claims))
            if orders:
                drawn = chance.choices(range(len(orders)), k=10)
                for index in [0, len(orders) // 2, len(orders) - 1] + drawn:
                    self.assertEqual(orders[index], nth_cup(3, claims, index).order)
                    self.assertEqual(index, cup_index(3, claims, Cup(orders[index])))
            self.assert_error(InvalidNumber, nth_cup, size=3, claims=claims, index=len(orders))
            for order in chance.choices(orders_for(3, []), k=20):
                at = bisect.bisect_left(orders, order)
                if orders[at:at + 1] == [order]:
                    self.assertEqual(at, cup_index(3, claims, Cup(order)))
                else:
                    self.assert_error(InvalidCup, cup_index, size=3, claims=claims, cup=Cup(order))

    def test_every_index_of_some_claims_of_size_3(self):
        for claims in (
            [(0, 3), (1, 2), (2, 1), (3, 1)],
            [(7, 1), (6, 1), (5, 1), (4, 1), (3, 3)],
            [(0, 1), (2, 1), (4, 1), (6, 1), (6, 2), (0, 2), (7, 0)],
            [(0, 1), (1, 1), (2, 1), (3, 1), (4, 1)],
            [(player, len(beaten)) for player, beaten in Played(3, 1).beaten.items()],
        ):
            self.assert_listed(3, claims, orders_for(3, claims))


class CountByHandTest(CupTestCase):

    def test_no_claims(self):
        for size in SIZES:
            many = math.factorial(2 ** size)
            for claims in ([], [(0, 0)], [(2 ** size - 1, 0)] * 3, [(player, 0) for player in range(2 ** size)]):
                self.assertEqual(many, self.both_ways(count_cups, size=size, claims=claims))

    def test_one_claim(self):
        for size in SIZES:
            for player, number in all_claims(size):
                places = 2 ** size if number == 0 else 2 ** (size - number)
                many = places * math.factorial(2 ** size - 1)
                self.assertEqual(many, count_cups(size, [(player, number)]))

    def test_as_many_claims_as_there_are_places_and_one_more(self):
        for size in SIZES[1:]:
            for number in range(1, size + 1):
                players = shuffled(range(2 ** size), number)
                places = 2 ** (size - number)
                claims = [(player, number) for player in players[:places]]
                many = math.factorial(places) * math.factorial(2 ** size - places)
                self.assertEqual(many, count_cups(size, claims))
                self.assertEqual(many, count_cups(size, claims + claims + [(players[-1], 0)]))
                self.assertEqual(0, count_cups(size, claims + [(players[-1], number)]))
                self.assert_error(
                    InvalidNumber, nth_cup, size=size, claims=claims + [(players[-1], number)], index=0,
                )

    def test_all_wins_of_a_cup(self):
        for size in SIZES:
            claims = [(player, len(beaten)) for player, beaten in Played(size, 5).beaten.items()]
            # Those who won equally often, and nobody else, can change their places.
            many = math.prod(math.factorial(2 ** number) for number in range(size))
            self.assertEqual(many, count_cups(size, claims))

    def test_first_and_last_without_claims(self):
        for size in SIZES:
            players = list(range(2 ** size))
            last = math.factorial(2 ** size) - 1
            self.assertEqual(players, nth_cup(size, [], 0).order)
            self.assertEqual(players[::-1], nth_cup(size, [], last).order)
            self.assertEqual(0, cup_index(size, [], Cup(players)))
            self.assertEqual(last, cup_index(size, [], Cup(players[::-1])))
            if size:
                self.assertEqual(players[:-2] + [players[-1], players[-2]], nth_cup(size, [], 1).order)
                half = math.factorial(2 ** size) // 2
                champion = 2 ** (size - 1)
                rest = [player for player in players if player != champion]
                self.assertEqual([champion] + rest, nth_cup(size, [], half).order)
                self.assertEqual(half, cup_index(size, [], Cup([champion] + rest)))

    def test_first_and_last_with_one_claim(self):
        for size in SIZES[1:]:
            players = list(range(2 ** size))
            last = players[-1]
            claims = [(last, size - 1)]
            if size > 1:
                # Behind the first place, only the one that begins the second half has all wins but one.
                half = 2 ** (size - 1)
                self.assertEqual(players[:half] + [last] + players[half:-1], nth_cup(size, claims, 0).order)
            self.assertEqual(players[::-1], nth_cup(size, claims, count_cups(size, claims) - 1).order)
            self.assertEqual([last] + players[:-1], nth_cup(size, [(last, size)], 0).order)
            many = math.factorial(2 ** size - 1)
            self.assertEqual([0] + players[:0:-1], nth_cup(size, [(0, size)], many - 1).order)
            self.assertEqual([0] + players[:0:-1], nth_cup(size, [], many - 1).order)


class IndexTest(CupTestCase):

    def test_index_and_cup_lead_back_to_each_other(self):
        chance = random.Random(3)
        for size, claims in many_claims():
            many = count_cups(size, claims)
            drawn = [chance.randrange(many) for _ in range(5)]
            for index in sorted({0, many - 1, many // 2, min(1, many - 1), *drawn}):
                cup = self.both_ways(nth_cup, size=size, claims=claims, index=index)
                self.assertIs(Cup, cup.__class__)
                self.assertIs(True, cup(Talk(size, [], claims)))
                self.assertEqual(index, self.both_ways(cup_index, size=size, claims=claims, cup=cup))

    def test_cups_lead_back_from_their_index(self):
        for size in SIZES:
            for seed in range(4):
                cup = Cup(Played(size, seed).order())
                for claims in ([], drawn_claims(size, seed)):
                    index = cup_index(size, claims, cup)
                    self.assertIs(int, index.__class__)
                    self.assertTrue(0 <= index < count_cups(size, claims))
                    self.assertEqual(cup, nth_cup(size, claims, index))

    def test_orders_ascend(self):
        chance = random.Random(4)
        for size, claims in many_claims():
            many = count_cups(size, claims)
            begin = chance.randrange(many)
            drawn = {chance.randrange(many) for _ in range(8)}
            near = {index for index in range(begin - 3, begin + 4) if 0 <= index < many}
            orders = [nth_cup(size, claims, index).order for index in sorted(drawn | near | {0, many - 1})]
            for one, other in zip(orders, orders[1:]):
                self.assertLess(one, other)

    def test_a_neighbour_is_the_next_fitting_order(self):
        chance = random.Random(5)
        for size, claims in many_claims():
            many = count_cups(size, claims)
            for _ in range(3 if many > 1 else 0):
                index = chance.randrange(many - 1)
                order = nth_cup(size, claims, index).order
                self.assertEqual(self.next_order(order, claims), nth_cup(size, claims, index + 1).order)

    def next_order(self, order, claims):
        """The next one of the orders that fit claims, by trying from the back to the front."""
        wanted = {player: max([0] + [number for one, number in claims if one == player]) for player in order}
        won = numbers_of_wins(len(order))
        for at in range(len(order) - 1, -1, -1):
            rest = order[at:]
            for player in sorted(rest):
                if player > order[at]:
                    found = self.least_order([player], [one for one in rest if one != player], wanted, won[at:])
                    if found is not None:
                        return order[:at] + found
        return None

    def least_order(self, begin, rest, wanted, won):
        """The least fitting order of the last places that has a begin, or None."""
        if wanted[begin[-1]] > won[len(begin) - 1]:
            return None
        # All others have a place if the ones with the greatest claims have the places with the most wins.
        free = sorted(won[len(begin):], reverse=True)
        if any(wanted[one] > place for one, place in
               zip(sorted(rest, key=lambda one: -wanted[one]), free)):
            return None
        for player in sorted(rest):
            found = self.least_order(begin + [player], [one for one in rest if one != player], wanted, won)
            if found is not None:
                return found
        return begin

    def test_more_claims_keep_the_sequence(self):
        for size in SIZES[1:]:
            claims = drawn_claims(size, 9)
            for index in range(min(6, count_cups(size, claims))):
                one = nth_cup(size, claims, index)
                self.assertLessEqual(index, cup_index(size, [], one))

    def test_cups_of_other_functions(self):
        for size, claims in many_claims():
            cup = cup_for(Talk(size, [], claims))
            self.assertEqual(cup, nth_cup(size, claims, cup_index(size, claims, cup)))

    def test_claims_that_say_the_same(self):
        for size in SIZES:
            claims = drawn_claims(size, 6)
            same = [Talk(size, [], claims).claims, claims[::-1], claims + claims, claims + [(0, 0)]]
            index = count_cups(size, claims) * 2 // 3
            for other in same:
                self.assertEqual(count_cups(size, claims), count_cups(size, other))
                self.assertEqual(nth_cup(size, claims, index), nth_cup(size, other, index))
                self.assertEqual(index, cup_index(size, other, nth_cup(size, claims, index)))


class CountingErrorsTest(CupTestCase):

    def test_wrong_sizes(self):
        sizes = [thing for thing in any_objects() if thing.__class__ is not int or not 0 <= thing <= 6]
        for size in sizes + [-1, 7, 8, True, False, HUGE, -HUGE, "3", [3], (3,), None]:
            for claims in ([], [(0, 0)], None, [(0, 99)]):
                self.assert_error(InvalidSize, count_cups, size=size, claims=claims)
                self.assert_error(InvalidSize, nth_cup, size=size, claims=claims, index=-1)
                self.assert_error(InvalidSize, cup_index, size=size, claims=claims, cup=None)

    def wrong_claims(self):
        lists = [thing for thing in any_objects() if thing not in ([], [(0, 1)])]
        items = [
            [0, 1], (0,), (0, 1, 2), (), (8, 0), (-1, 0), (0, 4), (0, -1), (True, 2), (2, True), (0, False), (False, 0),
            (0, None), ("0", "1"), "01", 0, True, None, {}, (0, HUGE), (HUGE, 0), ((0, 1), (2, 3)), Cup([0, 1]),
        ]
        return lists + [[(0, 1), item, (1, 1)] for item in items] + [((0, 1),), [(0, 0)] * 201, all_claims(6)[:201]]

    def test_wrong_claims(self):
        for claims in self.wrong_claims():
            self.assert_error(InvalidClaims, count_cups, size=3, claims=claims)
            self.assert_error(InvalidClaims, nth_cup, size=3, claims=claims, index=0)
            self.assert_error(InvalidClaims, nth_cup, size=3, claims=claims, index=-1)
            self.assert_error(InvalidClaims, cup_index, size=3, claims=claims, cup=Cup(list(range(8))))
            self.assert_error(InvalidClaims, cup_index, size=3, claims=claims, cup=None)

    def test_limits_go_with_the_size(self):
        for size in SIZES:
            for claims in ([(2 ** size, 0)], [(0, size + 1)], [(-1, 0)], [(0, -1)]):
                self.assert_error(InvalidClaims, count_cups, size=size, claims=claims)
            self.assertGreater(count_cups(size, [(2 ** size - 1, size)]), 0)

    def test_two_hundred_claims_and_one_more(self):
        for size in SIZES[1:]:
            claims = ([(0, size), (1, 1), (0, 1), (1, 0)] * 50)[:200]
            fewer = [(0, size), (1, 1)] if size > 1 else [(0, 1), (1, 1)]
            self.assertEqual(count_cups(size, fewer), count_cups(size, claims))
            many = count_cups(size, claims)
            if many:
                cup = nth_cup(size, claims, many - 1)
                self.assertEqual(cup, nth_cup(size, fewer, many - 1))
                self.assertEqual(many - 1, cup_index(size, claims, cup))
            self.assert_error(InvalidClaims, count_cups, size=size, claims=claims + [(0, 0)])
            self.assert_error(InvalidClaims, nth_cup, size=size, claims=claims + [(0, 0)], index=0)
            cup = Cup(list(range(2 ** size)))
            self.assert_error(InvalidClaims, cup_index, size=size, claims=claims + [(0, 0)], cup=cup)
        claims = shuffled(all_claims(6), 1)[:200]
        self.assertEqual(0, count_cups(6, claims))
        weak = [(player, 0) for player in range(64)] * 3 + [(63, 1)] * 8
        self.assertEqual(200, len(weak))
        self.assertEqual(32 * math.factorial(63), count_cups(6, weak))

    def test_wrong_indices(self):
        for size, claims in many_claims():
            many = count_cups(size, claims)
            for index in (-1, -many, many, many + 1, 10 ** 90, -HUGE, True, False):
                self.assert_error(InvalidNumber, nth_cup, size=size, claims=claims, index=index)
            if many <= HUGE:
                self.assert_error(InvalidNumber, nth_cup, size=size, claims=claims, index=HUGE)
                self.assert_error(InvalidNumber, nth_cup, size=size, claims=claims, index=10 ** 60 - 1)

    def test_indices_of_sixty_digits(self):
        for index in (HUGE, 10 ** 60 - 1):
            cup = nth_cup(6, [], index)
            self.assertEqual(index, cup_index(6, [], cup))

    def test_cups_that_do_not_fit(self):
        for size in SIZES[1:]:
            cup = Cup(Played(size, 7).order())
            for player in range(2 ** size):
                won = cup.wins(player)
                self.assertGreaterEqual(cup_index(size, [(player, won)], cup), 0)
                if won < size:
                    self.assert_error(InvalidCup, cup_index, size=size, claims=[(player, won + 1)], cup=cup)

    def test_cups_of_another_size(self):
        for size, other in itertools.permutations(SIZES, 2):
            cup = Cup(list(range(2 ** other)))
            self.assert_error(InvalidCup, cup_index, size=size, claims=[], cup=cup)

    def test_what_is_no_cup(self):
        things = [thing for thing in any_objects() if not isinstance(thing, Cup)]
        for size in SIZES:
            order = list(range(2 ** size))
            more = [order, tuple(order), Cup(order).rounds(), Cup(order).talk(), [Cup(order)], (Cup(order),)]
            for thing in things + more:
                self.assert_error(InvalidCup, cup_index, size=size, claims=[], cup=thing)

    def test_arguments_are_not_changed(self):
        claims = [(2, 1), (0, 0), (1, 2), (2, 1)]
        cup = Cup([1, 0, 2, 3])
        self.assertEqual(1, len({count_cups(2, claims) for _ in range(3)}))
        nth_cup(2, claims, 0)
        cup_index(2, claims, cup)
        for index in (-1, 99):
            self.assert_error(InvalidNumber, nth_cup, size=2, claims=claims, index=index)
        self.assertEqual([(2, 1), (0, 0), (1, 2), (2, 1)], claims)
        self.assertEqual(Cup([1, 0, 2, 3]), cup)

    def test_claims_that_are_changed_later(self):
        claims = [(0, 2)]
        cup = nth_cup(2, claims, 3)
        claims.append((1, 2))
        self.assertEqual([0, 2, 3, 1], cup.order)
        self.assertEqual(0, count_cups(2, claims))
        claims.clear()
        self.assertEqual(24, count_cups(2, claims))
        cup.order.clear()
        self.assertEqual(3, cup_index(2, claims, cup))


if __name__ == "__main__":
    unittest.main()
