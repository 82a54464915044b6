"""Points 2, 5 and 12: live talks."""

import random
import unittest

from cuptalk.cups import Cup
from cuptalk.errors import InvalidNumber, InvalidPlayer, InvalidSize, NotFitting, NothingToUndo
from cuptalk.live import LiveTalk, QuietTalk
from cuptalk.slots import obstacle
from cuptalk.talks import Talk
from tests.helpers import (
    HUGE, SIZES, CupTestCase, Played, all_claims, all_results, any_objects, has_clash, is_certificate, needs_and_slots,
    shuffled, summed,
)

CLASSES = (LiveTalk, QuietTalk)


def fits(talk):
    """R1, word by word as the document says it."""
    if has_clash(talk):
        return False
    given = needs_and_slots(talk)[1]
    enough = all(sum(slot >= r for slot in given) <= 2 ** (talk.size - r) for r in range(1, talk.size + 1))
    return enough and max(given) <= talk.size


class Record:
    """What a live talk should say of itself: the calls that hold, and how many held at each mark."""

    def __init__(self, size):
        self.size = size
        self.calls = []
        self.marks = []
        self.refused = 0

    def talk(self, *more):
        calls = self.calls + list(more)
        results = [arguments for name, arguments in calls if name == "beat"]
        claims = [arguments for name, arguments in calls if name == "claim"]
        return summed(self.size, results, claims)

    def undo(self):
        self.calls.pop()
        self.marks = [held for held in self.marks if held <= len(self.calls)]

    def undo_to(self, index):
        while len(self.calls) > self.marks[index]:
            self.calls.pop()
        self.marks = self.marks[:index + 1]

    def twin(self):
        other = Record(self.size)
        other.calls, other.marks, other.refused = list(self.calls), list(self.marks), self.refused
        return other


class LiveTestCase(CupTestCase):

    def assert_is(self, record, live):
        """The live talk is in the state that is written down."""
        self.assertIs(Talk, live.now().__class__)
        self.assertEqual(record.talk(), live.now())
        self.assertEqual(len(record.calls), len(live))
        self.assertIs(int, live.refused.__class__)
        self.assertEqual(record.refused, live.refused)

    def assert_marks(self, record, live):
        """There are as many marks as are written down, where they are written down."""
        for index in (-1, -len(record.marks) - 1, len(record.marks), len(record.marks) + 1, HUGE, -HUGE):
            self.assert_error(InvalidNumber, live.undo_to, index=index)
        for index in range(len(record.marks)):
            twin, other = live.twin(), record.twin()
            self.assertIsNone(twin.undo_to(index))
            other.undo_to(index)
            self.assert_is(other, twin)
            self.assertEqual(len(other.marks), twin.mark())
        self.assertEqual(len(record.marks), live.twin().mark())
        self.assert_is(record, live)

    def assert_refused(self, error, live, name, *arguments):
        """A call raises an error, by position and by name, and changes nothing."""
        before, many, refused = live.now(), len(live), live.refused
        names = ("one", "other") if name == "beat" else ("player", "number")
        self.assert_error(error, getattr(live, name), **dict(zip(names, arguments)))
        self.assertEqual((before, many, refused), (live.now(), len(live), live.refused))

    def step(self, record, live, name, *arguments):
        """A beat or a claim with valid arguments, of which it is not said whether it fits."""
        more = record.talk((name, arguments))
        if fits(more):
            self.assertIs(True, getattr(live, name)(*arguments))
            record.calls.append((name, arguments))
        elif live.__class__ is QuietTalk:
            self.assertIs(False, getattr(live, name)(*arguments))
            record.refused += 1
        else:
            with self.assertRaises(NotFitting) as caught:
                getattr(live, name)(*arguments)
            self.assertIs(NotFitting, caught.exception.__class__)
            self.assertEqual(obstacle(more), caught.exception.obstacle)
            self.assertTrue(is_certificate(more, caught.exception.obstacle))
        self.assert_is(record, live)


class NewLiveTalkTest(LiveTestCase):

    def test_at_first(self):
        for own in CLASSES:
            for size in SIZES:
                for live in (own(size), own(size=size)):
                    self.assertIs(own, live.__class__)
                    self.assert_is(Record(size), live)
                    self.assert_marks(Record(size), live)
                    self.assert_error(NothingToUndo, live.undo)
                    self.assert_is(Record(size), live)

    def test_wrong_sizes(self):
        sizes = [thing for thing in any_objects() if thing.__class__ is not int or not 0 <= thing <= 6]
        for own in CLASSES:
            for size in sizes + [-1, 7, 8, True, False, HUGE, -HUGE, "3", [3], (3,), None, LiveTalk]:
                self.assert_error(InvalidSize, own, size=size)

    def test_a_quiet_talk_is_a_live_talk(self):
        self.assertEqual((LiveTalk,), QuietTalk.__bases__)
        self.assertIsInstance(QuietTalk(2), LiveTalk)
        self.assertNotIsInstance(LiveTalk(2), QuietTalk)

    def test_compared_by_identity(self):
        for own in CLASSES:
            one, other = own(2), own(2)
            self.assertTrue(one == one)
            self.assertFalse(one != one)
            self.assertFalse(one == other)
            self.assertTrue(one != other)
            self.assertFalse(one == one.twin())
            self.assertFalse(one == one.now())
            self.assertFalse(one.now() == one)

    def test_refused_cannot_be_set(self):
        for own in CLASSES:
            live = own(2)
            with self.assertRaises(AttributeError):
                live.refused = 3
            self.assertEqual(0, live.refused)


class BeatAndClaimTest(LiveTestCase):

    def test_literal_calls(self):
        live = LiveTalk(3)
        self.assertIs(True, live.beat(0, 1))
        self.assertIs(True, live.claim(number=2, player=5))
        self.assertIs(True, live.beat(other=2, one=4))
        self.assertEqual(Talk(3, [(0, 1), (4, 2)], [(5, 2)]), live.now())
        self.assertEqual(3, len(live))
        with self.assertRaises(NotFitting) as caught:
            live.beat(3, 1)
        self.assertEqual(("twice", 0, 3, 1), caught.exception.obstacle)
        with self.assertRaises(NotFitting) as caught:
            live.beat(other=0, one=1)
        self.assertEqual("ring", caught.exception.obstacle[0])
        self.assertEqual([0, 1], sorted(caught.exception.obstacle[1]))
        self.assertIs(True, live.claim(4, 2))
        with self.assertRaises(NotFitting) as caught:
            live.claim(6, 2)
        self.assertEqual(("full", 2, [4, 5, 6]), caught.exception.obstacle)
        self.assertEqual(Talk(3, [(0, 1), (4, 2)], [(4, 2), (5, 2)]), live.now())
        self.assertEqual((4, 0), (len(live), live.refused))

    def test_literal_calls_of_a_quiet_talk(self):
        quiet = QuietTalk(2)
        self.assertIs(True, quiet.beat(0, 1))
        self.assertIs(False, quiet.beat(2, 1))
        self.assertIs(False, quiet.beat(other=0, one=1))
        self.assertIs(True, quiet.claim(2, 2))
        self.assertIs(False, quiet.claim(number=2, player=0))
        self.assertEqual(Talk(2, [(0, 1)], [(2, 2)]), quiet.now())
        self.assertEqual((2, 3), (len(quiet), quiet.refused))
        self.assertIsNone(quiet.undo())
        self.assertIs(True, quiet.claim(number=2, player=0))
        self.assertEqual((2, 3), (len(quiet), quiet.refused))

    def test_by_name(self):
        for own in CLASSES:
            for size in SIZES[1:]:
                by_position, by_name = own(size), own(size)
                last = 2 ** size - 1
                self.assertIs(by_position.beat(last, 0), by_name.beat(other=0, one=last))
                self.assertIs(by_position.claim(last, size), by_name.claim(number=size, player=last))
                self.assertEqual(by_position.now(), by_name.now())
                self.assertEqual(Talk(size, [(last, 0)], [(last, size)]), by_name.now())
                self.assertEqual((by_position.mark(), None), (by_name.mark(), by_name.undo_to(index=0)))

    def test_also_if_nothing_is_new(self):
        for own in CLASSES:
            for size in SIZES:
                live, record = own(size), Record(size)
                for _ in range(3):
                    if size:
                        self.step(record, live, "beat", 1, 0)
                    for number in (0, size, size // 2, size):
                        self.step(record, live, "claim", 2 ** size - 1, number)
                self.assertEqual(15 if size else 12, len(live))
                self.assertEqual(2 if size else 0, len(live.now()))

    def test_one_player(self):
        for own in CLASSES:
            live, record = own(0), Record(0)
            self.step(record, live, "claim", 0, 0)
            self.step(record, live, "claim", 0, 0)
            self.assertEqual(2, len(live))
            self.assert_refused(InvalidPlayer, live, "beat", 0, 0)
            self.assert_refused(InvalidPlayer, live, "beat", 0, 1)
            self.assert_refused(InvalidNumber, live, "claim", 0, 1)

    def test_whole_cups(self):
        for own in CLASSES:
            for size in SIZES:
                played = Played(size, 17)
                live, record = own(size), Record(size)
                for pair in shuffled(played.results(), 18):
                    self.assertIs(True, live.beat(*pair))
                    record.calls.append(("beat", pair))
                self.assert_is(record, live)
                self.assertEqual(Cup(played.order()).talk(), live.now())
                for one, other in shuffled(all_results(size), 19)[:20]:
                    self.step(record, live, "beat", one, other)
                for player, number in shuffled(all_claims(size), 20)[:20]:
                    self.step(record, live, "claim", player, number)

    def test_what_does_not_fit_twice(self):
        for size in SIZES[1:]:
            live, quiet = LiveTalk(size), QuietTalk(size)
            records = Record(size), Record(size)
            for record, own in zip(records, (live, quiet)):
                for _ in range(2):
                    self.step(record, own, "beat", 0, 1)
                    self.step(record, own, "beat", 1, 0)
                    self.step(record, own, "claim", 1, size)
                    self.step(record, own, "claim", 0, size)
            self.assertEqual((4, 0), (len(live), live.refused))
            self.assertEqual((4, 4), (len(quiet), quiet.refused))

    def test_invalid_players_and_numbers(self):
        for own in CLASSES:
            for size in SIZES:
                live, last = own(size), 2 ** size - 1
                self.assertIs(True, live.claim(last, size))
                for wrong in (-1, last + 1, HUGE, -HUGE, True, False):
                    self.assert_refused(InvalidPlayer, live, "beat", wrong, last)
                    self.assert_refused(InvalidPlayer, live, "beat", last, wrong)
                    self.assert_refused(InvalidPlayer, live, "beat", wrong, wrong)
                    self.assert_refused(InvalidPlayer, live, "claim", wrong, size)
                    self.assert_refused(InvalidPlayer, live, "claim", wrong, size + 1)
                for wrong in (-1, size + 1, HUGE, -HUGE, True, False):
                    self.assert_refused(InvalidNumber, live, "claim", last, wrong)
                for player in range(last + 1):
                    self.assert_refused(InvalidPlayer, live, "beat", player, player)
                self.assertEqual((1, 0), (len(live), live.refused))

    def test_invalid_arguments_come_before_what_does_not_fit(self):
        for own in CLASSES:
            live = own(2)
            live.claim(0, 2)
            for one, other in ((4, 0), (0, 4), (1, 1), (-1, 0)):
                self.assert_refused(InvalidPlayer, live, "beat", one, other)
            self.assert_refused(InvalidNumber, live, "claim", 1, 3)
            self.assert_refused(InvalidPlayer, live, "claim", 4, 2)

    def test_talks_that_were_given_out_do_not_change(self):
        for own in CLASSES:
            live = own(3)
            before = live.now()
            live.beat(0, 1)
            between = live.now()
            live.claim(2, 3)
            live.undo()
            live.undo()
            live.beat(7, 6)
            self.assertEqual(Talk(3, [], []), before)
            self.assertEqual(Talk(3, [(0, 1)], []), between)
            self.assertEqual(Talk(3, [(7, 6)], []), live.now())

    def test_returned_lists_have_no_effect(self):
        for own in CLASSES:
            live = own(2)
            live.beat(0, 1)
            live.claim(0, 2)
            live.now().results.clear()
            live.now().claims.append((9, 9))
            self.assertEqual(Talk(2, [(0, 1)], [(0, 2)]), live.now())
            self.assertEqual(live.now(), live.now())
        live = LiveTalk(2)
        live.claim(0, 2)
        for _ in range(2):
            with self.assertRaises(NotFitting) as caught:
                live.claim(3, 2)
            self.assertEqual(("full", 2, [0, 3]), caught.exception.obstacle)
            caught.exception.obstacle[2].clear()
        self.assertEqual(Talk(2, [], [(0, 2)]), live.now())


class UndoTest(LiveTestCase):

    def test_to_the_beginning_and_once_more(self):
        for own in CLASSES:
            for size in SIZES:
                live, record = own(size), Record(size)
                steps = [("beat", pair) for pair in Played(size, 21).results()]
                steps += [("claim", claim) for claim in shuffled(all_claims(size), 22)[:6]]
                for name, arguments in shuffled(steps, 23)[:12]:
                    self.step(record, live, name, *arguments)
                while record.calls:
                    self.assertIsNone(live.undo())
                    record.undo()
                    self.assert_is(record, live)
                for _ in range(2):
                    self.assert_error(NothingToUndo, live.undo)
                    self.assert_is(record, live)
                self.assertEqual(Talk(size, [], []), live.now())
                self.step(record, live, "claim", 0, size)

    def test_calls_that_were_refused_are_not_undone(self):
        live, quiet = LiveTalk(1), QuietTalk(1)
        for own in (live, quiet):
            own.beat(0, 1)
        self.assert_not_fitting(("ring", [0, 1]), live.beat, one=1, other=0)
        self.assertIs(False, quiet.beat(1, 0))
        for own, refused in ((live, 0), (quiet, 1)):
            self.assertIsNone(own.undo())
            self.assertEqual((Talk(1, [], []), 0, refused), (own.now(), len(own), own.refused))
            self.assert_error(NothingToUndo, own.undo)
            self.assertEqual(refused, own.refused)
            self.assertIs(True, own.beat(1, 0))

    def test_a_known_result_stays_until_its_first_call_is_undone(self):
        for own in CLASSES:
            live = own(2)
            for number in (1, 2, 0, 1):
                live.beat(0, 1)
                live.claim(0, number)
            told = [([(0, 1)], [(0, 2)])] * 4 + [([(0, 1)], [(0, 1)])] * 2 + [([(0, 1)], []), ([], [])]
            for results, claims in told:
                self.assertIsNone(live.undo())
                self.assertEqual(Talk(2, results, claims), live.now())


class MarkTest(LiveTestCase):

    def test_numbers_of_marks(self):
        for own in CLASSES:
            for size in SIZES:
                live = own(size)
                self.assertEqual([0, 1, 2], [live.mark() for _ in range(3)])
                live.claim(0, 0)
                self.assertEqual([3, 4], [live.mark(), live.mark()])
                self.assertEqual(1, len(live))

    def test_undo_to_twice(self):
        for own in CLASSES:
            live = own(3)
            live.beat(0, 1)
            self.assertEqual(0, live.mark())
            for _ in range(2):
                live.beat(2, 3)
                live.claim(7, 2)
                self.assertIsNone(live.undo_to(index=0))
                self.assertEqual((Talk(3, [(0, 1)], []), 1), (live.now(), len(live)))
                self.assertIsNone(live.undo_to(0))
                self.assertEqual((Talk(3, [(0, 1)], []), 1), (live.now(), len(live)))
            self.assertEqual(1, live.mark())

    def test_undo_to_removes_later_marks_and_keeps_others(self):
        for own in CLASSES:
            live, record = own(3), Record(3)
            for at in range(6):
                self.assertEqual(at, live.mark())
                record.marks.append(len(record.calls))
                self.step(record, live, "claim", at, 1 if at < 4 else 0)
            # Marks at the same place are later ones, too.
            self.assertEqual([6, 7], [live.mark(), live.mark()])
            record.marks += [6, 6]
            self.assert_marks(record, live)
            for index in (6, 4, 4, 1, 0):
                self.assertIsNone(live.undo_to(index))
                record.undo_to(index)
                self.assert_is(record, live)
                self.assert_marks(record, live)
            self.assertEqual(0, len(live))
            self.assertEqual(1, live.mark())

    def test_undo_removes_marks_that_were_made_after_the_call(self):
        for own in CLASSES:
            live, record = own(2), Record(2)
            for marks in (2, 1, 0, 3):
                for _ in range(marks):
                    self.assertEqual(len(record.marks), live.mark())
                    record.marks.append(len(record.calls))
                self.step(record, live, "beat", 0, 1)
            self.assertEqual(6, live.mark())
            record.marks.append(4)
            for left in (6, 3, 3, 2):
                self.assertIsNone(live.undo())
                record.undo()
                self.assertEqual(left, len(record.marks))
                self.assert_is(record, live)
                self.assert_marks(record, live)
            self.assert_error(NothingToUndo, live.undo)
            self.assert_marks(record, live)
            self.assertEqual(2, live.mark())

    def test_a_number_is_used_again(self):
        for own in CLASSES:
            live = own(3)
            live.mark()
            live.beat(0, 1)
            self.assertEqual(1, live.mark())
            live.undo()
            self.assert_error(InvalidNumber, live.undo_to, index=1)
            live.beat(2, 3)
            live.beat(4, 5)
            self.assertEqual(1, live.mark())
            live.beat(6, 7)
            live.undo_to(1)
            self.assertEqual(Talk(3, [(2, 3), (4, 5)], []), live.now())
            live.undo_to(0)
            self.assert_error(InvalidNumber, live.undo_to, index=1)
            self.assertEqual(Talk(3, [], []), live.now())

    def test_wrong_numbers(self):
        for own in CLASSES:
            for size in SIZES:
                live, record = own(size), Record(size)
                for many in range(3):
                    for index in (-1, -2, many, many + 1, HUGE, -HUGE, 10 ** 60 - 1, True, False):
                        self.assert_error(InvalidNumber, live.undo_to, index=index)
                        self.assert_is(record, live)
                    self.assertEqual(many, live.mark())
                    record.marks.append(len(record.calls))
                    self.step(record, live, "claim", 0, size)
                    self.assert_marks(record, live)

    def test_undo_behind_an_undo_to(self):
        for own in CLASSES:
            live = own(3)
            live.claim(0, 1)
            live.claim(1, 1)
            live.mark()
            live.claim(2, 1)
            live.undo_to(0)
            live.undo()
            self.assertEqual(Talk(3, [], [(0, 1)]), live.now())
            self.assert_error(InvalidNumber, live.undo_to, index=0)
            self.assertEqual(1, len(live))

    def test_undo_changes_nothing_about_what_was_refused(self):
        quiet = QuietTalk(2)
        quiet.mark()
        quiet.claim(0, 2)
        for many in range(1, 4):
            self.assertIs(False, quiet.claim(1, 2))
            self.assertEqual(many, quiet.refused)
        quiet.undo()
        self.assertEqual(3, quiet.refused)
        quiet.claim(1, 2)
        self.assertIs(False, quiet.claim(0, 2))
        quiet.undo_to(0)
        self.assertEqual((4, 0), (quiet.refused, len(quiet)))


class TwinTest(LiveTestCase):

    def some_live(self, own):
        live, record = own(3), Record(3)
        for name, one, other in (("beat", 0, 1), ("claim", 0, 3), ("beat", 2, 0), ("beat", 2, 3), ("claim", 5, 1)):
            record.marks.append(len(record.calls))
            live.mark()
            if own is QuietTalk or fits(record.talk((name, (one, other)))):
                self.step(record, live, name, one, other)
        return live, record

    def test_a_twin_is_equal_in_all(self):
        for own in CLASSES:
            live, record = self.some_live(own)
            twin = live.twin()
            self.assertIs(own, twin.__class__)
            self.assertIsNot(live, twin)
            self.assert_is(record, twin)
            self.assert_marks(record, twin)
            while record.calls:
                self.assertIsNone(twin.undo())
                record.undo()
                self.assert_is(record, twin)
            self.assert_error(NothingToUndo, twin.undo)

    def test_twins_are_independent(self):
        for own in CLASSES:
            live, record = self.some_live(own)
            twin, other = live.twin(), record.twin()
            self.step(other, twin, "beat", 6, 7)
            self.assert_is(record, live)
            self.step(record, live, "claim", 7, 2)
            self.step(record, live, "claim", 0, 1)
            self.assert_is(other, twin)
            twin.mark()
            other.marks.append(len(other.calls))
            self.assert_marks(record, live)
            live.undo()
            record.undo()
            self.assert_is(other, twin)
            self.assert_marks(other, twin)
            twin.undo_to(0)
            other.undo_to(0)
            self.assert_is(record, live)
            self.assert_marks(record, live)
            self.assert_is(other, twin)

    def test_twins_of_twins(self):
        for own in CLASSES:
            pairs = [self.some_live(own)]
            for at in range(4):
                live, record = pairs[-1]
                twin, other = live.twin(), record.twin()
                self.assertIs(own, twin.__class__)
                if own is QuietTalk:
                    self.step(other, twin, "beat", 1, 0)
                self.step(other, twin, "claim", at, 0)
                pairs.append((twin, other))
            pairs[2][0].undo()
            pairs[2][1].undo()
            for live, record in pairs:
                self.assert_is(record, live)
                self.assert_marks(record, live)
            if own is QuietTalk:
                refused = pairs[0][0].refused
                self.assertEqual([refused + at for at in range(5)], [live.refused for live, _ in pairs])

    def test_twins_of_new_ones(self):
        for own in CLASSES:
            for size in SIZES:
                live = own(size)
                twin = live.twin()
                twin.claim(0, size)
                self.assert_is(Record(size), live)
                self.assert_error(NothingToUndo, live.undo)
                self.assertEqual(0, twin.mark())
                self.assert_error(InvalidNumber, live.undo_to, index=0)

    def test_a_quiet_twin_refuses_quietly_and_a_live_one_loudly(self):
        self.assertIs(False, self.some_live(QuietTalk)[0].twin().beat(1, 0))
        with self.assertRaises(NotFitting):
            self.some_live(LiveTalk)[0].twin().beat(1, 0)


class LongLiveTalkTest(LiveTestCase):

    def random_call(self, chance, record, live):
        """One of all calls, most of them a beat or a claim; what fits a cup that was played is more likely."""
        size, word = record.size, chance.random()
        if word < 0.4 and size:
            pair = chance.choice(Played(size, 25).results()) if chance.random() < 0.7 else \
                tuple(chance.sample(range(2 ** size), 2))
            self.step(record, live, "beat", *pair)
        elif word < 0.7:
            self.step(record, live, "claim", chance.randrange(2 ** size), chance.randint(0, min(size, 2)))
        elif word < 0.8:
            self.assertEqual(len(record.marks), live.mark())
            record.marks.append(len(record.calls))
        elif word < 0.97 or not record.marks:
            if record.calls:
                self.assertIsNone(live.undo())
                record.undo()
            else:
                self.assert_error(NothingToUndo, live.undo)
        else:
            index = chance.randrange(len(record.marks))
            self.assertIsNone(live.undo_to(index))
            record.undo_to(index)
        self.assert_is(record, live)

    def test_two_hundred_calls(self):
        for own in CLASSES:
            for size in SIZES:
                chance = random.Random(size)
                live, record = own(size), Record(size)
                for _ in range(200):
                    self.random_call(chance, record, live)
                self.assert_marks(record, live)

    def test_two_hundred_beats_and_claims_and_all_undone(self):
        for own in CLASSES:
            for size in (0, 1, 4, 6):
                live = own(size)
                results = (Played(size, 26).results() * 200)[:100]
                for pair in results:
                    self.assertIs(True, live.beat(*pair))
                    live.claim(pair[0], 0)
                for _ in range(200 - len(live)):
                    self.assertIs(True, live.claim(0, 0))
                self.assertEqual(200, len(live))
                self.assertEqual(Talk(size, results, []), live.now())
                twin = live.twin()
                for at in range(200):
                    live.undo()
                    self.assertEqual(199 - at, len(live))
                self.assertEqual(Talk(size, [], []), live.now())
                self.assert_error(NothingToUndo, live.undo)
                self.assertEqual(200, len(twin))

    def test_a_quiet_and_a_live_talk_with_the_same_calls(self):
        for size in SIZES[1:]:
            chance = random.Random(size + 30)
            live, quiet, refused = LiveTalk(size), QuietTalk(size), 0
            for _ in range(60):
                if chance.random() < 0.5:
                    name, arguments = "beat", chance.sample(range(2 ** size), 2)
                else:
                    name, arguments = "claim", (chance.randrange(2 ** size), chance.randint(0, size))
                try:
                    told = getattr(live, name)(*arguments)
                except NotFitting:
                    told = False
                    refused += 1
                self.assertIs(told, getattr(quiet, name)(*arguments))
                self.assertEqual(live.now(), quiet.now())
                self.assertEqual(len(live), len(quiet))
                self.assertEqual((0, refused), (live.refused, quiet.refused))
                self.assertIsNone(obstacle(live.now()))
            self.assertGreater(refused, 0)
            for _ in range(len(live)):
                live.undo()
                quiet.undo()
                self.assertEqual(live.now(), quiet.now())


if __name__ == "__main__":
    unittest.main()
