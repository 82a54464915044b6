"""Texts: talks and cups as strings, one text for each."""

from cuptalk.checks import MOST_ITEMS, is_claim, is_result, is_size
from cuptalk.cups import Cup, is_order
from cuptalk.errors import InvalidText
from cuptalk.talks import Talk

# The last player of the largest cups is 63.
MOST_DIGITS = 2


def number_of(word, digits):
    """The number that a word tells with at most so many digits, or None."""
    if not word.isdigit() or len(word) > digits or (word != "0" and word.startswith("0")):
        return None
    return int(word)


def pair_of(word, sign):
    """The numbers before and behind a sign in a word, with None for what is no number."""
    before, _, behind = word.partition(sign)
    return number_of(before, MOST_DIGITS), number_of(behind, MOST_DIGITS)


def is_next_result(pair, size, results):
    """Whether a pair is a result that can stand behind some results in a talk."""
    return is_result(pair, size) and (results == [] or results[-1] < pair)


def is_next_claim(pair, size, claims):
    """Whether a pair is a claim that can stand behind some claims in a talk."""
    # A talk has one claim of a player at most, and none of 0.
    return is_claim(pair, size) and pair[1] > 0 and (claims == [] or claims[-1][0] < pair[0])


def talk_of(size, results, claims):
    """The talk with any number of results, of which Talk takes only so many at once."""
    talk = Talk(size, [], claims)
    for at in range(0, len(results), MOST_ITEMS):
        talk = talk + Talk(size, results[at:at + MOST_ITEMS], [])
    return talk


def write_talk(talk):
    """The text of a talk."""
    results = [f"{winner}>{loser}" for winner, loser in talk.results]
    claims = [f"{player}+{number}" for player, number in talk.claims]
    return " ".join([str(talk.size), *results, *claims])


def read_talk(text):
    """The talk that has a text."""
    words = text.split(" ")
    size = number_of(words[0], MOST_DIGITS)
    if not is_size(size):
        raise InvalidText(0)
    results = []
    claims = []
    for at in range(1, len(words)):
        result = pair_of(words[at], ">")
        claim = pair_of(words[at], "+")
        if claims == [] and is_next_result(result, size, results):
            results.append(result)
        elif is_next_claim(claim, size, claims):
            claims.append(claim)
        else:
            raise InvalidText(at)
    return talk_of(size, results, claims)


def write_cup(cup):
    """The text of a cup."""
    parts = [str(player) for player in cup.order]
    while len(parts) > 1:
        parts = [f"({parts[at]} {parts[at + 1]})" for at in range(0, len(parts), 2)]
    return parts[0]


def read_cup(text):
    """The cup that has a text."""
    # A cup has one text only, so its players are enough to find it, and no parentheses have to be followed.
    words = text.replace("(", "").replace(")", "").split(" ")
    order = [number_of(word, MOST_DIGITS) for word in words]
    if not is_order(order) or write_cup(Cup(order)) != text:
        raise InvalidText(0)
    return Cup(order)
