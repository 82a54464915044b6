"""Points 2, 5 and 14: sessions."""

import itertools
import random
import re
import unittest

from cuptalk.cups import Cup
from cuptalk.errors import TalkError
from cuptalk.live import LiveTalk
from cuptalk.meetings import rounds_of
from cuptalk.session import session
from cuptalk.slots import cup_for
from cuptalk.talks import Talk
from cuptalk.texts import read_cup, read_talk, write_cup, write_talk
from cuptalk.wins import champions, greatest_wins, least_wins
from tests.helpers import SIZES, CupTestCase, Played, shuffled

NUMBER = "(0|[1-9][0-9]{0,8})"
COMMANDS = {
    "size": 1, "beat": 2, "claim": 2, "talk": 0, "wins": 1, "champions": 0, "rounds": 2, "cup": 0, "undo": 0, "mark": 0,
    "back": 1,
}
OTHER_LINES = (
    "", " ", "  ", "?", "ok", "-", "x", "Size 3", "SIZE 3", "size", "size ", "size  3", " size 3", "size 3 ",
    "size 3 4",
    "size 03", "size -1", "size +3", "size x", "size 3.0", "size 1000000000", "size\t3", "size,3", "size3", "beat",
    "beat 0", "beat 0 1 2", "beat 0  1", "beat 0 1 ", " beat 0 1", "beat 0>1", "beat 00 1", "beat 0 01", "beat -1 0",
    "beat +0 1", "beat a b", "beat 0 1000000000", "beat 1000000000 0", "beat 0000000001 0", "beat  0", "Beat 0 1",
    "beat 0,1", "claim", "claim 0", "claim 0+1", "claim 0 1 2", "claim 0 -1", "claim 0 01", "claim 0 1234567890",
    "claim 0 ", "claims 0 1", "talk 0", "talk ", " talk", "talks", "talk talk", "wins", "wins ", "wins 0 1", "wins 00",
    "wins x", "wins -1", "wins 0 ", "champions 0", "champions ", "champion", "rounds", "rounds 0", "rounds 0 1 2",
    "rounds 0 x", "rounds 01 0", "cup 0", "cup ", "cups", "undo 0", "undo ", "undo 1", " undo", "mark 0", "mark ",
    "marks", "back", "back 00", "back -1", "back x", "back 0 0", "back ", "back  0", "back 1000000000", "now", "twin",
    "refused", "len", "undo_to 0", "3", "0 1", "3 0>1", "(0 1)", "beat 0 1;", "#", "beat 0 " + "1" * 60, "x" * 900,
    "size " + "1" * 900, "size " + "0" * 10, "quit", "help",
)


class Interpreter:
    """What the lines of a session should be answered, by the calls that they stand for."""

    def __init__(self):
        self.live = None

    def call(self, word, numbers):
        live = self.live
        calls = {
            "beat": lambda: live.beat(*numbers),
            "claim": lambda: live.claim(*numbers),
            "talk": lambda: write_talk(live.now()),
            "wins": lambda: f"{least_wins(live.now(), *numbers)} {greatest_wins(live.now(), *numbers)}",
            "champions": lambda: " ".join(map(str, champions(live.now()))),
            "rounds": lambda: " ".join(map(str, rounds_of(live.now(), *numbers) or "-")),
            "cup": lambda: write_cup(cup_for(live.now())),
            "undo": lambda: live.undo(),
            "mark": lambda: str(live.mark()),
            "back": lambda: live.undo_to(*numbers),
        }
        return calls[word]()

    def answer(self, line):
        for word, many in COMMANDS.items():
            found = re.fullmatch(" ".join([word] + [NUMBER] * many), line)
            if found and (word == "size" or self.live is not None):
                numbers = [int(number) for number in found.groups()]
                try:
                    if word == "size":
                        self.live = LiveTalk(*numbers)
                        return "ok"
                    told = self.call(word, numbers)
                except TalkError as error:
                    return error.__class__.__name__
                return told if isinstance(told, str) else "ok"
        return "?"


class SessionTest(CupTestCase):

    def assert_answers(self, *pairs):
        """The lines of the pairs have the answers of the pairs, all together and cut off behind each line."""
        lines, answers = [line for line, _ in pairs], [answer for _, answer in pairs]
        told = self.both_ways(session, rows="\n".join(lines))
        self.assertIs(str, told.__class__)
        self.assertEqual(answers, told.split("\n"))
        for many in range(1, len(pairs)):
            self.assertEqual("\n".join(answers[:many]), session("\n".join(lines[:many])))

    def assert_interpreted(self, lines):
        interpreter = Interpreter()
        answers = [interpreter.answer(line) for line in lines]
        self.assertEqual("\n".join(answers), self.both_ways(session, rows="\n".join(lines)))
        return answers

    def test_every_command(self):
        self.assert_answers(
            ("size 3", "ok"), ("talk", "3"), ("mark", "0"), ("beat 0 1", "ok"), ("beat 4 2", "ok"), ("claim 5 2", "ok"),
            ("talk", "3 0>1 4>2 5+2"), ("wins 5", "2 3"), ("wins 1", "0 1"), ("wins 0", "1 3"), ("rounds 0 1", "1 2"),
            ("rounds 1 0", "-"), ("rounds 0 2", "-"), ("rounds 3 3", "-"), ("champions", "0 3 4 5 6 7"), ("mark", "1"),
            ("claim 4 3", "ok"), ("champions", "4"), ("wins 4", "3 3"), ("rounds 4 5", "3 3"), ("back 1", "ok"),
            ("champions", "0 3 4 5 6 7"), ("undo", "ok"), ("talk", "3 0>1 4>2"), ("back 0", "ok"), ("talk", "3"),
            ("undo", "NothingToUndo"), ("talk", "3"), ("mark", "1"), ("mark", "2"), ("back 2", "ok"), ("mark", "3"),
        )

    def test_cups(self):
        self.assert_answers(("size 0", "ok"), ("cup", "0"), ("champions", "0"), ("wins 0", "0 0"), ("rounds 0 0", "-"))
        self.assert_answers(
            ("size 1", "ok"), ("beat 1 0", "ok"), ("cup", "(1 0)"), ("champions", "1"), ("talk", "1 1>0"),
        )
        self.assert_answers(
            ("size 2", "ok"), ("beat 2 0", "ok"), ("beat 3 1", "ok"), ("beat 2 3", "ok"), ("cup", "((2 0) (3 1))"),
            ("talk", "2 2>0 2>3 3>1"), ("champions", "2"), ("wins 3", "1 1"), ("rounds 2 3", "2 2"),
        )
        for size in SIZES:
            cup = Cup(Played(size, 51).order())
            lines = [f"beat {winner} {loser}" for winner, loser in shuffled(cup.matches(), 52)]
            told = session("\n".join([f"size {size}", *lines, "cup", "talk"])).split("\n")
            self.assertEqual(["ok"] * (2 ** size) + [write_cup(cup), write_talk(cup.talk())], told)
            self.assertEqual((cup, cup.talk()), (read_cup(told[-2]), read_talk(told[-1])))

    def test_every_error(self):
        self.assert_answers(
            ("size 7", "InvalidSize"), ("size 2", "ok"), ("beat 4 0", "InvalidPlayer"), ("beat 0 4", "InvalidPlayer"),
            ("beat 1 1", "InvalidPlayer"), ("beat 999999999 0", "InvalidPlayer"), ("claim 4 3", "InvalidPlayer"),
            ("claim 0 3", "InvalidNumber"), ("claim 0 999999999", "InvalidNumber"), ("wins 4", "InvalidPlayer"),
            ("rounds 4 0", "InvalidPlayer"), ("rounds 0 4", "InvalidPlayer"), ("back 0", "InvalidNumber"),
            ("back 999999999", "InvalidNumber"), ("undo", "NothingToUndo"), ("talk", "2"), ("beat 0 1", "ok"),
            ("beat 1 0", "NotFitting"), ("beat 2 1", "NotFitting"), ("claim 1 1", "ok"), ("claim 2 1", "NotFitting"),
            ("talk", "2 0>1 1+1"), ("mark", "0"), ("back 1", "InvalidNumber"), ("size 7", "InvalidSize"),
            ("size 999999999", "InvalidSize"), ("talk", "2 0>1 1+1"), ("back 0", "ok"), ("undo", "ok"),
            ("back 0", "InvalidNumber"), ("undo", "ok"), ("undo", "NothingToUndo"), ("undo", "NothingToUndo"),
        )

    def test_also_if_nothing_is_new(self):
        self.assert_answers(
            ("size 2", "ok"), ("beat 0 1", "ok"), ("beat 0 1", "ok"), ("claim 0 0", "ok"), ("talk", "2 0>1"),
            ("undo", "ok"), ("undo", "ok"), ("talk", "2 0>1"), ("undo", "ok"), ("talk", "2"), ("undo", "NothingToUndo"),
        )

    def test_the_empty_string_and_newlines(self):
        self.assertEqual("?", self.both_ways(session, rows=""))
        for many in range(1, 200):
            self.assertEqual("\n".join(["?"] * (many + 1)), session("\n" * many))
        self.assertEqual("ok\n?", session("size 3\n"))
        self.assertEqual("?\nok", session("\nsize 3"))
        self.assertEqual("ok\n?\n3\n?\n?", session("size 3\n\ntalk\n\n"))
        self.assertEqual("ok", session("size 3"))

    def test_before_the_first_size_line(self):
        valid = ("beat 0 1", "claim 0 1", "talk", "wins 0", "champions", "rounds 0 1", "cup", "undo", "mark", "back 0")
        for line in valid + OTHER_LINES:
            self.assertEqual("?", session(line))
            self.assertEqual("?\nok\n1", session(f"{line}\nsize 1\ntalk"))
            self.assertEqual("InvalidSize\n?\nok\n1\n0", session(f"size 7\n{line}\nsize 1\ntalk\nmark"))
        unanswered = [(line, "?") for line in valid]
        self.assert_answers(*unanswered, ("size 9", "InvalidSize"), *unanswered)

    def test_other_lines_change_nothing(self):
        for line in OTHER_LINES:
            self.assert_answers(
                ("size 3", "ok"), (line, "?"), ("beat 0 1", "ok"), ("mark", "0"), (line, "?"), ("claim 5 1", "ok"),
                (line, "?"), (line, "?"), ("talk", "3 0>1 5+1"), ("mark", "1"), (line, "?"), ("back 0", "ok"),
                ("undo", "ok"), ("undo", "NothingToUndo"), (line, "?"), ("talk", "3"),
            )

    def test_numbers_have_one_to_nine_digits(self):
        for digits in range(1, 10):
            number = 10 ** digits - 1
            self.assert_answers(
                (f"size {number}", "InvalidSize"), ("size 0", "ok"), (f"beat 0 {number}", "InvalidPlayer"),
                (f"beat {number} 0", "InvalidPlayer"), (f"claim 0 {number}", "InvalidNumber"),
                (f"wins {number}", "InvalidPlayer"), (f"rounds 0 {number}", "InvalidPlayer"),
                (f"back {number}", "InvalidNumber"), (f"back {10 ** (digits - 1)}", "InvalidNumber"),
            )
        for number in ("1000000000", "9999999999", "0" * 9, "0" * 10, "000000001", "1" * 60, "-0", "+0", "", "0x1"):
            for line in (
                f"size {number}", f"beat 0 {number}", f"beat {number} 0", f"claim 0 {number}", f"claim {number} 0",
                f"wins {number}", f"rounds {number} 1", f"rounds 1 {number}", f"back {number}",
            ):
                self.assert_answers(("size 3", "ok"), ("mark", "0"), (line, "?"), ("talk", "3"), ("mark", "1"))

    def test_a_size_line_in_the_middle(self):
        self.assert_answers(
            ("size 2", "ok"), ("beat 0 1", "ok"), ("mark", "0"), ("size 3", "ok"), ("talk", "3"),
            ("back 0", "InvalidNumber"), ("undo", "NothingToUndo"), ("mark", "0"), ("claim 7 3", "ok"),
            ("size 8", "InvalidSize"), ("talk", "3 7+3"), ("size x", "?"), ("talk", "3 7+3"), ("size 3", "ok"),
            ("talk", "3"), ("mark", "0"), ("size 0", "ok"), ("beat 0 1", "InvalidPlayer"), ("talk", "0"),
            ("size 6", "ok"), ("beat 63 0", "ok"), ("talk", "6 63>0"),
        )

    def test_size_lines_of_all_sizes(self):
        for size in range(20):
            answer = "ok" if size <= 6 else "InvalidSize"
            self.assertEqual(answer, session(f"size {size}"))
            self.assertEqual(f"{answer}\n{size if size <= 6 else '?'}", session(f"size {size}\ntalk"))

    def test_two_hundred_lines(self):
        lines = ["size 6"] + [f"beat {2 * at} {2 * at + 1}" for at in range(32)] * 5 + ["mark"] * 38 + ["talk"]
        self.assertEqual(200, len(lines))
        told = session("\n".join(lines)).split("\n")
        talk = Talk(6, [(2 * at, 2 * at + 1) for at in range(32)], [])
        self.assertEqual(["ok"] * 161 + [str(number) for number in range(38)] + [write_talk(talk)], told)
        lines = ["size 4"] + ["claim 3 2"] * 99 + ["undo"] * 100
        self.assertEqual("\n".join(["ok"] * 199 + ["NothingToUndo"]), session("\n".join(lines)))
        self.assertEqual("\n".join(["ok"] * 200), session("\n".join(["size 4"] * 200)))

    def random_line(self, chance, size):
        """Some line; what fits a cup that was played is more likely than what does not."""
        word = chance.choice(["beat", "beat", "beat", "claim", "claim", "undo", "mark", "back"] + list(COMMANDS)[3:])
        if chance.random() < 0.04:
            return chance.choice(OTHER_LINES)
        if word == "beat" and size and chance.random() < 0.7:
            winner, loser = chance.choice(Played(size, 53).results())
            return f"beat {winner} {loser}"
        if word == "claim":
            return f"claim {chance.randrange(2 ** size)} {chance.choice([0, 1, 1, 2, size, size + 1])}"
        numbers = [str(chance.randrange(4 if word == "back" else 2 ** size + (chance.random() < 0.1)))
                   for _ in range(COMMANDS[word])]
        return " ".join([word, *numbers])

    def test_what_a_live_talk_and_the_functions_answer(self):
        seen = set()
        for size in SIZES:
            for seed in range(3):
                chance = random.Random(10 * size + seed)
                lines = [f"size {size}"] + [self.random_line(chance, size) for _ in range(199)]
                if seed == 2:
                    lines[150] = f"size {chance.randrange(9)}"
                seen.update(self.assert_interpreted(lines))
        for answer in ("ok", "?", "-", "0", "1", "InvalidPlayer", "InvalidNumber", "NotFitting", "NothingToUndo"):
            self.assertIn(answer, seen)

    def test_all_lines_for_two_players(self):
        lines = [f"{word} {one} {other}" for word in ("beat", "claim", "rounds") for one, other in
                 itertools.product(range(3), repeat=2)]
        lines += ["talk", "wins 0", "wins 1", "wins 2", "champions", "cup", "undo", "mark", "back 0", "back 1", ""]
        for seed in range(30):
            self.assert_interpreted(["size 1"] + shuffled(lines * 4, seed))

    def test_a_session_ends_with_its_string(self):
        self.assertEqual("ok\nok\n2 0>1", session("size 2\nbeat 0 1\ntalk"))
        self.assertEqual("?", session("talk"))
        self.assertEqual("ok\n2", session("size 2\ntalk"))


if __name__ == "__main__":
    unittest.main()
