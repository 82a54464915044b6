"""Points 2, 5 and 13: texts of talks and cups."""

import itertools
import random
import re
import unittest

from cuptalk.cups import Cup
from cuptalk.errors import InvalidClaims, InvalidResults, InvalidText
from cuptalk.talks import Talk
from cuptalk.texts import read_cup, read_talk, write_cup, write_talk
from tests.helpers import (
    SIZES, CupTestCase, Played, all_claims, all_results, fitting_talks, misfits, played_cups, shuffled, summed,
)

ODD_WORDS = (
    "", "x", "talk", "-1", "+1", "-", "+", ">", "0>", ">1", "0+", "+2", "\n", "0\n", "0>1\n", "\n0>1", "0+1\n",
    "0>-1", "-0>1", "+0>1", "0>+1", "00>1", "0>01", "00+1", "0+01", "0++1", "0>>1", "0<1", "0=1", "0,1", "(0,1)", "0-1",
    "0>1>2", "0+1+2", "0>1+2", "0+1>2", "1_0>2", "0x1>2", "1.0>2", "0>1.0", "1e1>0", "0>1,", "[0>1]", "None>1",
    "True>0",
    "0:1", "(0", "0)", "()", "\t", "0>1\t", "0\n>1", "999>0", "0>999", "9" * 60 + ">0", "0>" + "9" * 60,
    "0+" + "9" * 60, "9" * 60 + "+1", "00", "01", "0>000", "000+1", "1>1", "0>0",
)


class TextTestCase(CupTestCase):

    def assert_wrong(self, read, text, word):
        """The read function raises InvalidText with the word, by position and by name."""
        self.assert_error(InvalidText, read, text=text)
        for call in (lambda: read(text), lambda: read(text=text)):
            with self.assertRaises(InvalidText) as caught:
                call()
            self.assertIs(int, caught.exception.word.__class__)
            self.assertEqual(word, caught.exception.word, repr(text[:80]))


def text_of(talk):
    """The text of a talk, word by word as the document says it."""
    words = [str(talk.size)]
    words += [str(winner) + ">" + str(loser) for winner, loser in talk.results]
    words += [str(player) + "+" + str(number) for player, number in talk.claims]
    return " ".join(words)


def some_talks():
    """Talks of all sizes, such as no cup fits and such as have more than 200 results among them."""
    talks = fitting_talks() + misfits()
    chance = random.Random(41)
    for size in SIZES[1:]:
        for many in (1, 10, 200):
            results = chance.choices(all_results(size), k=many)
            talks.append(Talk(size, results, chance.choices(all_claims(size), k=many)))
    return talks


def first_wrong_word(text):
    """The number of the first wrong word, or None, by trying to make talks of more and more words."""
    words = text.split(" ")
    if words[0] not in tuple("0123456"):
        return 0
    size = int(words[0])
    results, claims = [], []
    for at, word in enumerate(words[1:], 1):
        found = re.fullmatch(r"(0|[1-9][0-9]*)([>+])(0|[1-9][0-9]*)", word)
        if found is None:
            return at
        pair = (int(found[1]), int(found[3]))
        (results if found[2] == ">" else claims).append(pair)
        try:
            talk = summed(size, results, claims)
        except (InvalidResults, InvalidClaims):
            return at
        if (talk.results, talk.claims) != (results, claims) or (claims and found[2] == ">"):
            return at
    return None


class TalkTextTest(TextTestCase):

    def test_literal_texts(self):
        for talk, text in (
            (Talk(3, [(4, 2), (0, 1)], [(5, 1), (5, 2)]), "3 0>1 4>2 5+2"),
            (Talk(0, [], []), "0"),
            (Talk(0, [], [(0, 0)]), "0"),
            (Talk(6, [], []), "6"),
            (Talk(1, [(1, 0), (0, 1)], [(1, 1), (0, 0)]), "1 0>1 1>0 1+1"),
            (Talk(4, [(10, 9), (9, 10), (2, 15), (2, 3)], [(10, 4), (9, 1), (2, 1)]),
             "4 2>3 2>15 9>10 10>9 2+1 9+1 10+4"),
            (Talk(6, [(63, 62)], [(63, 6)]), "6 63>62 63+6"),
        ):
            self.assertEqual(text, self.both_ways(write_talk, talk=talk))
            self.assertEqual(talk, self.both_ways(read_talk, text=text))

    def test_there_and_back(self):
        for talk in some_talks():
            text = self.both_ways(write_talk, talk=talk)
            self.assertIs(str, text.__class__)
            self.assertEqual(text_of(talk), text)
            back = self.both_ways(read_talk, text=text)
            self.assertIs(Talk, back.__class__)
            self.assertEqual(talk, back)
            self.assertEqual((talk.size, talk.results, talk.claims), (back.size, back.results, back.claims))
            self.assertEqual(text, write_talk(back))

    def test_more_than_two_hundred_results(self):
        for size in (4, 5, 6):
            for many in (199, 200, 201, 240, 400, 401, 992, 4032):
                results = all_results(size)[:many]
                talk = summed(size, results, all_claims(size))
                text = write_talk(talk)
                self.assertEqual(1 + len(results) + 2 ** size, len(text.split(" ")))
                self.assertEqual(talk, read_talk(text))
                self.assertEqual(results, read_talk(text).results)
                self.assertEqual(text, write_talk(read_talk(text)))
                self.assert_wrong(read_talk, text + " ", 1 + len(talk))
                self.assert_wrong(read_talk, text + " 0>1", 1 + len(talk))

    def test_equal_talks_have_one_text(self):
        for talk in some_talks():
            other = summed(talk.size, shuffled(talk.results, 1), shuffled(talk.claims + talk.claims[:3], 2))
            self.assertEqual(write_talk(talk), write_talk(other))

    def test_each_wrong_word_behind_right_ones(self):
        for text in ("3", "3 0>1", "3 0>1 4>2", "3 0>1 4>2 5+2", "3 5+2 6+1", "0", "6", "6 0>1 0>63 9+6"):
            self.assertIsNone(first_wrong_word(text))
            many = len(text.split(" "))
            for word in ODD_WORDS:
                self.assert_wrong(read_talk, text + " " + word, many)
                self.assert_wrong(read_talk, text + " " + word + " 7+1", many)
                self.assert_wrong(read_talk, text + " " + word + " ", many)

    def test_wrong_first_words(self):
        for word in ODD_WORDS + ("7", "8", "10", "06", "-0", "3\n", "\n3", "three", "3.", "9" * 60, "63", "0>1", "0+1"):
            self.assert_wrong(read_talk, word, 0)
            self.assert_wrong(read_talk, word + " 0>1", 0)
            self.assert_wrong(read_talk, word + " ", 0)

    def test_the_empty_string_and_blanks(self):
        for text in ("", " ", "  ", " 3", "  3", " 3 0>1", "\n", " \n"):
            self.assert_wrong(read_talk, text, 0)
        for text, word in (
            ("3 ", 1), ("3  ", 1), ("3  0>1", 1), ("3 0>1 ", 2), ("3 0>1  4>2", 2), ("3 0>1 4>2 ", 3),
            ("3 0>1 5+2 ", 3), ("3 0>1  5+2", 2), ("3 0>1 5+2  6+1", 3), ("0 ", 1),
        ):
            self.assert_wrong(read_talk, text, word)

    def test_newlines(self):
        for text, word in (
            ("3\n", 0), ("\n3", 0), ("3\n0>1", 0), ("3 \n", 1), ("3 0>1\n", 1), ("3 0>1\n4>2", 1), ("3 \n0>1", 1),
            ("3 0>1 4>2\n5+2", 2), ("3 0>1 5+2\n", 2), ("3 0\n>1", 1), ("3 0>\n1", 1), ("3 0>1 \n", 2),
        ):
            self.assert_wrong(read_talk, text, word)

    def test_signs_and_leading_zeros(self):
        for text, word in (
            ("+3", 0), ("-0", 0), ("03", 0), ("00", 0), ("3 +0>1", 1), ("3 0>+1", 1), ("3 -0>1", 1), ("3 00>1", 1),
            ("3 0>01", 1), ("3 05+2", 1), ("3 5+02", 1), ("3 0>1 5++2", 2), ("3 0>1 +5+2", 2), ("3 0>1 5+-2", 2),
            ("3 0>1 04>2", 2), ("3 0>1 4>02", 2), ("4 010>1", 1), ("4 10>01", 1),
        ):
            self.assert_wrong(read_talk, text, word)

    def test_numbers_at_their_limits_and_above(self):
        for size in SIZES:
            last = 2 ** size - 1
            for number in range(1, size + 1):
                self.assertEqual(Talk(size, [], [(last, number)]), read_talk(f"{size} {last}+{number}"))
            for text in (
                f"{last}+{size + 1}", f"{last + 1}+1", f"{last + 1}+{size}", f"0>{last + 1}", f"{last + 1}>0",
                f"{last}+0", "0+0", "0>0", f"{last}>{last}", f"{last}>{last + 1}", f"{last}+{size + 10}",
                f"{last + 100}>0", f"{last}+{10 ** 59}",
            ):
                self.assert_wrong(read_talk, f"{size} {text}", 1)
                if size:
                    self.assertEqual(Talk(size, [(0, last), (last, 0)], []), read_talk(f"{size} 0>{last} {last}>0"))
                    self.assert_wrong(read_talk, f"{size} 0>{last} {text}", 2)

    def test_claims_of_nothing(self):
        for text, word in (("3 5+0", 1), ("3 0>1 5+0", 2), ("3 4+1 5+0", 2), ("3 5+0 5+1", 1), ("0 0+0", 1)):
            self.assert_wrong(read_talk, text, word)

    def test_sequences_that_do_not_ascend(self):
        for text, word in (
            ("3 1>0 0>1", 2), ("3 0>2 0>1", 2), ("3 0>1 0>1", 2), ("3 0>1 4>2 0>1", 3), ("3 0>1 4>2 4>2", 3),
            ("3 5+2 4+2", 2), ("3 5+2 5+2", 2), ("3 5+2 5+1", 2), ("3 5+1 5+2", 2), ("3 5+1 6+1 5+2", 3),
            ("4 10>1 2>1", 2), ("4 2>10 2>3", 2), ("4 10+1 9+1", 2), ("3 0>1 5+2 5+3", 3), ("3 1>2 1>2 0>1", 2),
        ):
            self.assert_wrong(read_talk, text, word)
        self.assertEqual([(2, 3), (2, 10), (10, 1)], read_talk("4 2>3 2>10 10>1").results)
        self.assertEqual([(9, 3), (10, 1)], read_talk("4 9+3 10+1").claims)

    def test_a_claim_before_a_result(self):
        for text, word in (
            ("3 5+2 0>1", 2), ("3 5+2 6>7", 2), ("3 0>1 5+2 6>7", 3), ("3 0>1 5+2 6+1 7>6", 4), ("3 0+1 0>1 1>2", 2),
        ):
            self.assert_wrong(read_talk, text, word)

    def test_the_first_wrong_word_counts(self):
        self.assert_wrong(read_talk, "7 x y", 0)
        self.assert_wrong(read_talk, "3 x 9>9 ", 1)
        self.assert_wrong(read_talk, "3 0>1 0>1 0>1", 2)
        self.assert_wrong(read_talk, "3 5+2 0>1 x", 2)

    def test_changed_texts(self):
        chance = random.Random(42)
        signs = "0123456789>+ -\n(x"
        for talk in some_talks():
            # With many words, making talks of more and more of them takes long.
            text = " ".join(write_talk(talk).split(" ")[:12])
            for _ in range(4):
                at = chance.randrange(len(text) + 1)
                for changed in (
                    text[:at] + text[at + 1:], text[:at] + chance.choice(signs) + text[at:],
                    text[:at] + chance.choice(signs) + text[at + 1:],
                    " ".join(shuffled(text.split(" "), chance.random())),
                ):
                    word = first_wrong_word(changed)
                    if word is None:
                        self.assertEqual(changed, write_talk(read_talk(changed)))
                    else:
                        self.assert_wrong(read_talk, changed, word)

    def test_all_short_texts(self):
        for signs in itertools.product("012 >+", repeat=4):
            text = "1" + "".join(signs)
            word = first_wrong_word(text)
            if word is None:
                self.assertEqual(text, write_talk(read_talk(text)))
            else:
                self.assert_wrong(read_talk, text, word)

    def test_long_strings(self):
        for text in ("3" * 4000, "0" * 4000, "(" * 4000, "\n" * 4000, ">" * 4000):
            self.assert_wrong(read_talk, text, 0)
        ones = "1" * 3996
        for text in ("3 " + ones, "3 0>" + ones, "3 " + ones + ">0", "3 0+" + ones, "3" + " " * 3999):
            self.assert_wrong(read_talk, text, 1)
        self.assert_wrong(read_talk, "1 0>1" + " 0>1" * 900, 2)
        self.assert_wrong(read_talk, " " * 4000, 0)

    def test_texts_of_cups_are_no_texts_of_talks(self):
        for played in played_cups():
            if played.size:
                self.assert_wrong(read_talk, write_cup(Cup(played.order())), 0)

    def test_talks_are_not_changed(self):
        talk = Talk(2, [(2, 3), (0, 1)], [(0, 2)])
        write_talk(talk)
        self.assertEqual(Talk(2, [(0, 1), (2, 3)], [(0, 2)]), talk)
        back = read_talk("2 0>1 2>3 0+2")
        back.results.clear()
        back.claims.clear()
        self.assertEqual(talk, back)
        self.assertEqual(talk, read_talk("2 0>1 2>3 0+2"))


def halved(order):
    """The text of an order, by halves."""
    if len(order) == 1:
        return str(order[0])
    half = len(order) // 2
    return "(" + halved(order[:half]) + " " + halved(order[half:]) + ")"


class CupTextTest(TextTestCase):

    def test_literal_texts(self):
        for cup, text in (
            (Cup([0]), "0"),
            (Cup([0, 1]), "(0 1)"),
            (Cup([1, 0]), "(1 0)"),
            (Cup([0, 1, 2, 3]), "((0 1) (2 3))"),
            (Cup([3, 0, 2, 1]), "((3 0) (2 1))"),
            (Cup([7, 1, 3, 0, 2, 6, 5, 4]), "(((7 1) (3 0)) ((2 6) (5 4)))"),
        ):
            self.assertEqual(text, self.both_ways(write_cup, cup=cup))
            self.assertEqual(cup, self.both_ways(read_cup, text=text))

    def test_there_and_back(self):
        for played in played_cups():
            cup = Cup(played.order())
            text = self.both_ways(write_cup, cup=cup)
            self.assertIs(str, text.__class__)
            self.assertEqual(halved(cup.order), text)
            back = self.both_ways(read_cup, text=text)
            self.assertIs(Cup, back.__class__)
            self.assertEqual(cup, back)
            self.assertEqual(text, write_cup(back))

    def test_all_cups_of_small_sizes(self):
        for size in (0, 1, 2):
            texts = [write_cup(Cup(list(order))) for order in itertools.permutations(range(2 ** size))]
            self.assertEqual(len(texts), len(set(texts)))
            for text in texts:
                self.assertEqual(text, write_cup(read_cup(text)))

    def test_literal_wrong_texts(self):
        for text in (
            "", " ", "\n", "1", "00", "-0", "+0", "x", "(0)", "()", "( )", "(0", "0)", "((0 1))", "(0 1", "0 1)", "0 1",
            "(0  1)", "( 0 1)", "(0 1 )", " (0 1)", "(0 1) ", "(0 1)\n", "\n(0 1)", "(0\n1)", "(0,1)", "(0, 1)",
            "(0 0)",
            "(1 1)", "(0 2)", "(1 2)", "(00 1)", "(0 01)", "(+0 1)", "(0 -1)", "(0 1 2)", "(0 1 2 3)", "0 1 2 3",
            "(0 1) (2 3)", "((0 1)(2 3))", "((0 1)  (2 3))", "((0 1) (2 3)", "(0 1) (2 3))", "((0 1) (2 3)))",
            "(((0 1) (2 3))", "(((0 1) (2 3)))", "((0 1) 2 3)", "((0 1) (2 3) )", "( (0 1) (2 3))", "(0 (1 (2 3)))",
            "(((0 1) 2) 3)", "((0 (1 2)) 3)", "((0 1) (2 0))", "((0 1) (2 4))", "((0 1) 2)", "(0 (1 2))", "((0 1) (2))",
            "[[0 1] [2 3]]", "((0 1) (2 3))x", "((0 1) (2\n3))", "((0 1) (2 3)) ", "((0 1) (2 3.0))", "((0 1) (2 3 4))",
            "((0) (1))", "(0 1)(2 3)", ")0 1(", "((0 1) )2 3(", "(0 1)()", "()(0 1)", "(0 ()1)", "((0 1) (2 3)",
            "(0(1))",
            "((0 1) ((2 3)))", "None", "[0, 1]", "2 0>1", "(0>1)", "(0 1+1)", "((0 1) (10 3))",
        ):
            self.assert_wrong(read_cup, text, 0)

    def test_each_sign_more_less_or_other(self):
        signs = "() 0123456789\n-+>x"
        for played in played_cups():
            text = write_cup(Cup(played.order()))
            chance = random.Random(len(text))
            for at in sorted(chance.choices(range(len(text)), k=12)):
                sign = chance.choice(signs)
                for changed in (text[:at] + text[at + 1:], text[:at] + sign + text[at:],
                                text[:at] + sign + text[at + 1:], text[:at], text[at + 1:]):
                    if changed == text:
                        continue
                    order = [int(word) for word in re.findall("[0-9]+", changed)]
                    known = sorted(order) == list(range(len(order))) and len(order) in (1, 2, 4, 8, 16, 32, 64)
                    if known and changed == halved(order):
                        self.assertEqual(order, read_cup(changed).order)
                    else:
                        self.assert_wrong(read_cup, changed, 0)

    def test_all_short_texts(self):
        right = {"0", "(0 1)", "(1 0)"}
        for many in range(6):
            for signs in itertools.product("01( )", repeat=many):
                text = "".join(signs)
                if text in right:
                    self.assertEqual(text, write_cup(read_cup(text)))
                else:
                    self.assert_wrong(read_cup, text, 0)

    def test_wrong_players(self):
        for size in SIZES:
            order = Played(size, 43).order()
            for at in (0, len(order) // 2, len(order) - 1):
                for other in (order[at - 1], len(order), len(order) + 1, 10 ** 59):
                    wrong = order[:at] + [other] + order[at + 1:]
                    if wrong != order:
                        self.assert_wrong(read_cup, halved(wrong), 0)
                self.assert_wrong(read_cup, halved(order).replace(str(order[at]), f"0{order[at]}"), 0)

    def test_wrong_numbers_of_players(self):
        for many in (3, 5, 6, 7, 12, 33, 63, 65, 96, 128):
            self.assert_wrong(read_cup, halved(list(range(many))), 0)
            self.assert_wrong(read_cup, "(" + " ".join(str(player) for player in range(many)) + ")", 0)

    def test_parentheses_within_one_another(self):
        for many in (2, 10, 100, 300, 999, 1001, 1333, 1999):
            for text in (
                "(" * many, ")" * many, "(" * many + "0" + ")" * many, "(" * many + "0 1" + ")" * many, "()" * many,
                "(" * many + ")" * many, "(0 " * many + "1" + ")" * many, "(" * many + "0" + " 1)" * many,
                "( " * many + ") " * many, "(" * many + " " + ")" * many, ")" * many + "0 1" + "(" * many,
            ):
                self.assert_wrong(read_cup, text, 0)
        for size in SIZES:
            text = write_cup(Cup(Played(size, 44).order()))
            for many in (1, 2, 500, 1800):
                self.assert_wrong(read_cup, "(" * many + text + ")" * many, 0)
                self.assert_wrong(read_cup, "(" * many + text, 0)
                self.assert_wrong(read_cup, text + ")" * many, 0)

    def test_long_strings(self):
        for part in ("0", "1", " ", "\n", "0 ", "(0 1) ", "9", "x", ") ("):
            text = part * (4000 // len(part))
            self.assert_wrong(read_cup, text, 0)

    def test_texts_of_talks_are_no_texts_of_cups(self):
        for talk in fitting_talks():
            text = write_talk(talk)
            if text == "0":
                self.assertEqual(Cup([0]), read_cup(text))
            else:
                self.assert_wrong(read_cup, text, 0)

    def test_cups_are_not_changed(self):
        cup = Cup([2, 3, 0, 1])
        self.assertEqual("((2 3) (0 1))", write_cup(cup))
        self.assertEqual([2, 3, 0, 1], cup.order)
        back = read_cup("((2 3) (0 1))")
        back.order.clear()
        self.assertEqual(cup, back)


if __name__ == "__main__":
    unittest.main()
