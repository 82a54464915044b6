"""Points 2, 11, 12, 13 and 14: what the document says over calls of all files together."""

import itertools
import random
import unittest

from cuptalk.counting import count_cups, cup_index, nth_cup
from cuptalk.cups import Cup
from cuptalk.errors import NotFitting
from cuptalk.live import LiveTalk, QuietTalk
from cuptalk.meetings import certain_results, conquerors, could_beat, could_meet, rounds_of
from cuptalk.session import session
from cuptalk.slots import cup_for, cup_with, needs, obstacle, slots
from cuptalk.talks import Talk
from cuptalk.texts import read_cup, read_talk, write_cup, write_talk
from cuptalk.wins import champions, greatest_wins, least_wins, sure_champion, wins_table
from tests.helpers import (
    SIZES, CupTestCase, Played, all_claims, all_results, crowded_talks, fitting_talks, shuffled, talk_of_played,
)


def lines_of(talk, seed=None):
    """The lines of a session that make a talk."""
    lines = [f"beat {winner} {loser}" for winner, loser in talk.results]
    lines += [f"claim {player} {number}" for player, number in talk.claims]
    return [f"size {talk.size}"] + (lines if seed is None else shuffled(lines, seed))


def answers(lines):
    return session("\n".join(lines)).split("\n")


def live_with(own, talk, seed):
    """A live talk with the results and claims of a talk that fits, in some sequence."""
    live = own(talk.size)
    steps = [(live.beat, pair) for pair in talk.results] + [(live.claim, claim) for claim in talk.claims]
    for call, arguments in shuffled(steps, seed):
        call(*arguments)
    return live


def claims_of_talks():
    """Claims alone, such as some cup fits and such as none does."""
    rows = [(talk.size, talk.claims) for talk in fitting_talks() + crowded_talks()]
    for size in SIZES:
        for seed in range(5):
            chance = random.Random(seed)
            rows.append((size, chance.choices(all_claims(size), k=chance.randrange(2 ** size))))
    return rows


class OneCupTest(CupTestCase):

    def test_a_cup_its_rounds_its_text_its_talk_and_its_index(self):
        for size in SIZES:
            for seed in range(4):
                cup = Cup(Played(size, 90 + seed).order())
                index = cup_index(size, [], cup)
                same = [
                    Cup(cup.order), Cup.of(cup.rounds()), read_cup(write_cup(cup)), cup_for(cup.talk()),
                    cup_for(read_talk(write_talk(cup.talk()))), nth_cup(size, [], index),
                    cup_for(live_with(LiveTalk, cup.talk(), seed).now()),
                    cup_for(live_with(QuietTalk, cup.talk(), seed).twin().now()),
                    read_cup(answers(lines_of(cup.talk(), seed) + ["cup"])[-1]),
                    cup_with(cup.talk(), cup.champion, size), Cup(nth_cup(size, [], index).order),
                ]
                claims = [(player, cup.wins(player)) for player in range(2 ** size)]
                same.append(nth_cup(size, claims, cup_index(size, claims, cup)))
                for other in same:
                    self.assertIs(Cup, other.__class__)
                    self.assertEqual(cup, other)
                    self.assertEqual((cup.order, cup.rounds()), (other.order, other.rounds()))
                    self.assertEqual(cup.talk(), other.talk())
                    self.assertEqual(index, cup_index(size, [], other))
                    self.assertEqual(write_cup(cup), write_cup(other))
                told = answers(lines_of(cup.talk(), seed) + ["talk"])[-1]
                self.assertEqual(cup.talk(), read_talk(told))

    def test_a_part_of_a_cup_fits(self):
        for size in SIZES:
            for seed, share in enumerate((0.2, 0.5, 0.8)):
                played = Played(size, seed)
                cup, talk = Cup(played.order()), talk_of_played(played, share, seed)
                for own in (LiveTalk, QuietTalk):
                    live = live_with(own, talk, seed)
                    self.assertEqual((talk, 0), (live.now(), live.refused))
                    self.assertIs(True, cup(live.now()))
                self.assert_told_within(cup, talk, seed)
                self.assert_session_within(cup, talk, seed)
                index = cup_index(size, talk.claims, cup)
                self.assertTrue(0 <= index < count_cups(size, talk.claims))

    def assert_told_within(self, cup, talk, seed):
        """What is true in a cup is possible by all functions."""
        for player, (least, greatest) in enumerate(wins_table(talk)):
            self.assertTrue(least <= cup.wins(player) <= greatest)
            if cup.conqueror(player) is not None:
                self.assertIn(cup.conqueror(player), conquerors(talk, player))
        self.assertIn(cup.champion, champions(talk))
        self.assertIn(sure_champion(talk), (None, cup.champion))
        for winner, loser in shuffled(cup.matches(), seed)[:10]:
            first, last = rounds_of(talk, winner, loser)
            self.assertTrue(first <= cup.round_of(winner, loser) <= last)
            self.assertIs(True, could_beat(talk, winner, loser))
            self.assertIs(True, could_meet(talk, loser, winner))
        if talk.size <= 4:
            self.assertLessEqual(set(talk.results), set(certain_results(talk)))
            self.assertLessEqual(set(certain_results(talk)), set(cup.matches()))

    def assert_session_within(self, cup, talk, seed):
        """What is true in a cup is possible by the answers of a session, too."""
        matches = shuffled(cup.matches(), seed)[:8]
        players = shuffled(range(2 ** cup.size), seed)[:8]
        asked = [f"wins {player}" for player in players] + [f"rounds {one} {other}" for one, other in matches]
        told = answers(lines_of(talk, seed) + ["champions", "cup", "talk"] + asked)
        begin = len(talk) + 1
        self.assertEqual(["ok"] * begin, told[:begin])
        self.assertIn(str(cup.champion), told[begin].split(" "))
        self.assertIs(True, read_cup(told[begin + 1])(talk))
        self.assertEqual(talk, read_talk(told[begin + 2]))
        real = [cup.wins(player) for player in players] + [cup.round_of(*pair) for pair in matches]
        for number, answer in zip(real, told[begin + 3:], strict=True):
            first, last = map(int, answer.split(" "))
            self.assertTrue(first <= number <= last)


class RenamedTest(CupTestCase):

    def test_counts(self):
        for size, claims in claims_of_talks():
            names = shuffled(range(2 ** size), 91)
            renamed = [(names[player], number) for player, number in claims]
            many = count_cups(size, claims)
            self.assertEqual(many, count_cups(size, renamed))
            if many:
                cup = nth_cup(size, claims, many // 2)
                other = Cup([names[player] for player in cup.order])
                self.assertTrue(0 <= cup_index(size, renamed, other) < many)
                if size <= 2:
                    self.assert_all_renamed(size, claims, renamed, names)

    def assert_all_renamed(self, size, claims, renamed, names):
        every = range(count_cups(size, claims))
        orders = [[names[player] for player in nth_cup(size, claims, index).order] for index in every]
        self.assertEqual(sorted(orders), [nth_cup(size, renamed, index).order for index in every])

    def test_live_talks_and_sessions(self):
        for size in SIZES[1:]:
            names = shuffled(range(2 ** size), 92)
            one, other = QuietTalk(size), QuietTalk(size)
            lines, other_lines = [f"size {size}"], [f"size {size}"]
            pairs = Played(size, 93).results()[:40] + shuffled(all_results(size), 94)[:40]
            for winner, loser in shuffled(pairs, 95):
                told = one.beat(winner, loser)
                self.assertIs(told, other.beat(names[winner], names[loser]))
                lines += [f"beat {winner} {loser}", f"wins {winner}"]
                other_lines += [f"beat {names[winner]} {names[loser]}", f"wins {names[winner]}"]
            self.assertEqual((len(one), one.refused), (len(other), other.refused))
            self.assertEqual(answers(lines), answers(other_lines))


class HalvesTest(CupTestCase):

    def test_counts(self):
        for size in SIZES[:6]:
            half = 2 ** size
            for seed in range(3):
                low = talk_of_played(Played(size, seed), 0.6, seed).claims
                high = talk_of_played(Played(size, seed + 5), 0.6, seed).claims
                both = low + [(player + half, number) for player, number in high]
                # Two cups make one of the next size in two sequences, and there are others.
                pairs = count_cups(size, low) * count_cups(size, high)
                self.assertGreaterEqual(count_cups(size + 1, both), 2 * pairs)
                one = nth_cup(size, low, count_cups(size, low) - 1).order
                other = [player + half for player in nth_cup(size, high, 0).order]
                for order in (one + other, other + one):
                    index = cup_index(size + 1, both, Cup(order))
                    self.assertEqual(order, nth_cup(size + 1, both, index).order)

    def test_texts(self):
        for size in SIZES[:6]:
            half = 2 ** size
            low, high = Cup(Played(size, 96).order()), Cup(Played(size, 97).order())
            moved = [player + half for player in high.order]
            both = Cup(low.order + moved)
            self.assertTrue(write_cup(both).startswith(f"({write_cup(low)} "))
            self.assertEqual(both, read_cup(write_cup(both)))
            other = Cup(moved + low.order)
            self.assertTrue(write_cup(other).endswith(f" {write_cup(low)})"))
            talk = low.talk() if size == 0 else Talk(size + 1, low.talk().results, [])
            words = write_talk(low.talk()).split(" ")
            if size:
                self.assertEqual(" ".join([str(size + 1)] + words[1:]), write_talk(talk))

    def test_live_talks(self):
        for size in SIZES[:6]:
            half = 2 ** size
            low = talk_of_played(Played(size, 98), 0.6, 1)
            high = talk_of_played(Played(size, 99), 0.6, 2)
            live = LiveTalk(size + 1)
            for talk, first in ((low, 0), (high, half)):
                for winner, loser in talk.results:
                    self.assertIs(True, live.beat(winner + first, loser + first))
                for player, number in talk.claims:
                    self.assertIs(True, live.claim(player + first, number))
            self.assertEqual(needs(low) + needs(high), needs(live.now()))
            self.assertEqual(slots(low) + slots(high), slots(live.now()))
            self.assertEqual(len(low) + len(high), len(live))
            joined = Cup(cup_for(low).order + [player + half for player in cup_for(high).order])
            self.assertIs(True, joined(live.now()))


class MoreIsKnownTest(CupTestCase):

    def test_counts(self):
        for size, claims in claims_of_talks():
            many = count_cups(size, claims)
            for player, number in shuffled(all_claims(size), 100)[:6]:
                more = count_cups(size, claims + [(player, number)])
                self.assertLessEqual(more, many)
                if more:
                    cup = nth_cup(size, claims + [(player, number)], more - 1)
                    self.assertGreaterEqual(cup_index(size, claims, cup), more - 1)

    def test_what_was_refused_is_refused_again(self):
        for size in SIZES[1:]:
            chance = random.Random(size)
            quiet, refused = QuietTalk(size), []
            pairs = shuffled(all_results(size), 101)[:30] + Played(size, 102).results()[:20]
            for pair in shuffled(pairs, 103):
                if not quiet.beat(*pair):
                    refused.append(("beat", pair))
                claim = (chance.randrange(2 ** size), chance.randint(0, size))
                if not quiet.claim(*claim):
                    refused.append(("claim", claim))
            many = quiet.refused
            self.assertEqual(len(refused), many)
            for at, (name, arguments) in enumerate(refused, 1):
                self.assertIs(False, getattr(quiet, name)(*arguments))
                self.assertEqual(many + at, quiet.refused)

    def test_undoing_makes_no_less_possible(self):
        for size in SIZES[1:]:
            live = live_with(LiveTalk, talk_of_played(Played(size, 104), 0.7, 104), 104)
            while len(live):
                table, found = wins_table(live.now()), champions(live.now())
                live.undo()
                for (least, greatest), (new_least, new_greatest) in zip(table, wins_table(live.now())):
                    self.assertTrue(new_least <= least <= greatest <= new_greatest)
                self.assertLessEqual(set(found), set(champions(live.now())))
                for _ in range(len(live) // 8):
                    live.undo()


class ClaimsAloneTest(CupTestCase):

    def test_counts_and_obstacles(self):
        for size, claims in claims_of_talks():
            talk = Talk(size, [], claims)
            self.assertIs(count_cups(size, claims) > 0, obstacle(talk) is None)

    def test_counts_and_wins(self):
        for size, claims in claims_of_talks():
            talk = Talk(size, [], claims)
            if obstacle(talk) is not None:
                continue
            claimed = dict(talk.claims)
            self.assertEqual([claimed.get(player, 0) for player in range(2 ** size)], needs(talk))
            for player in shuffled(range(2 ** size), 105)[:6]:
                counts = [count_cups(size, claims + [(player, number)]) for number in range(size + 1)] + [0]
                exactly = [number for number in range(size + 1) if counts[number] > counts[number + 1]]
                self.assertEqual(list(range(exactly[0], exactly[-1] + 1)), exactly)
                self.assertEqual(exactly[0], least_wins(talk, player))
                self.assertEqual(exactly[-1], greatest_wins(talk, player))
                self.assertEqual(sum(counts) - sum(counts[1:]), counts[0])
                for number in exactly[:2]:
                    cup = cup_with(talk, player, number)
                    self.assertEqual(cup, nth_cup(size, claims, cup_index(size, claims, cup)))

    def test_counts_and_champions(self):
        for size, claims in claims_of_talks():
            counts = [count_cups(size, claims + [(player, size)]) for player in range(2 ** size)]
            self.assertEqual(count_cups(size, claims), sum(counts))
            if sum(counts):
                talk = Talk(size, [], claims)
                self.assertEqual([player for player, many in enumerate(counts) if many], champions(talk))
                # The champion stands at the first place, so the orders ascend with it.
                for player, first in zip(range(2 ** size), itertools.accumulate(counts, initial=0)):
                    if counts[player]:
                        self.assertEqual(player, nth_cup(size, claims, first).champion)

    def test_all_cups_of_small_sizes_fit(self):
        for size, claims in claims_of_talks():
            if size <= 2:
                talk = Talk(size, [], claims)
                cups = [nth_cup(size, claims, index) for index in range(count_cups(size, claims))]
                for order in itertools.permutations(range(2 ** size)):
                    self.assertIs(Cup(list(order)) in cups, Cup(list(order))(talk))


class EqualCallsTest(CupTestCase):

    def test_live_talks_and_sessions(self):
        for talk in fitting_talks()[::3]:
            one, other = live_with(LiveTalk, talk, 1), live_with(LiveTalk, talk, 2)
            self.assertEqual(one.now(), other.now())
            self.assertEqual(cup_for(one.now()), cup_for(other.now()))
            asked = ["talk", "champions", "cup"] + [f"wins {player}" for player in range(2 ** talk.size)]
            told = {tuple(answers(lines_of(talk, seed) + asked)) for seed in range(3)}
            self.assertEqual(1, len(told))

    def test_obstacles_of_live_talks_are_new(self):
        live = LiveTalk(3)
        live.beat(0, 1)
        live.beat(1, 2)
        found = []
        for _ in range(3):
            with self.assertRaises(NotFitting) as caught:
                live.beat(2, 0)
            found.append(caught.exception.obstacle)
        self.assertEqual("ring", found[0][0])
        self.assertEqual([found[0]] * 3, found)
        found[0][1].clear()
        self.assertEqual(3, len(found[1][1]))
        self.assertIsNot(found[1][1], found[2][1])
        self.assertEqual(obstacle(Talk(3, [(0, 1), (1, 2), (2, 0)], [])), found[2])


if __name__ == "__main__":
    unittest.main()
