"""Sessions: lines of a string, and the answers of a live talk to them."""

from cuptalk.errors import InvalidNumber, InvalidPlayer, InvalidSize, NotFitting, NothingToUndo
from cuptalk.live import LiveTalk
from cuptalk.meetings import rounds_of
from cuptalk.slots import cup_for
from cuptalk.texts import number_of, write_cup, write_talk
from cuptalk.wins import champions, greatest_wins, least_wins

MOST_DIGITS = 9
UNKNOWN = "?"

# How many numbers stand behind the first word of a line.
NUMBERS_BEHIND = {
    "size": 1,
    "beat": 2,
    "claim": 2,
    "talk": 0,
    "wins": 1,
    "champions": 0,
    "rounds": 2,
    "cup": 0,
    "undo": 0,
    "mark": 0,
    "back": 1,
}


def read_line(line):
    """The first word and the numbers of a line; UNKNOWN and no numbers for a line that is none of a session."""
    words = line.split(" ")
    numbers = [number_of(word, MOST_DIGITS) for word in words[1:]]
    if words[0] not in NUMBERS_BEHIND or len(numbers) != NUMBERS_BEHIND[words[0]] or None in numbers:
        return UNKNOWN, []
    return words[0], numbers


def joined(numbers):
    return " ".join([str(number) for number in numbers])


def rounds_text(talk, one, other):
    rounds = rounds_of(talk, one, other)
    return "-" if rounds is None else joined(rounds)


def told(talk, word, numbers):
    """What the functions of the package tell about a talk, for a line that changes nothing."""
    if word == "talk":
        return write_talk(talk)
    if word == "cup":
        return write_cup(cup_for(talk))
    if word == "champions":
        return joined(champions(talk))
    if word == "wins":
        return joined([least_wins(talk, numbers[0]), greatest_wins(talk, numbers[0])])
    return rounds_text(talk, numbers[0], numbers[1])


def result_of(live, word, numbers):
    """What the call that a line stands for returns."""
    if word == "beat":
        return live.beat(numbers[0], numbers[1])
    if word == "claim":
        return live.claim(numbers[0], numbers[1])
    if word == "undo":
        return live.undo()
    if word == "mark":
        return live.mark()
    if word == "back":
        return live.undo_to(numbers[0])
    return told(live.now(), word, numbers)


def answer_of(live, word, numbers):
    """The answer to a line that is not a size line."""
    try:
        result = result_of(live, word, numbers)
    except InvalidPlayer:
        return "InvalidPlayer"
    except InvalidNumber:
        return "InvalidNumber"
    except NotFitting:
        return "NotFitting"
    except NothingToUndo:
        return "NothingToUndo"
    return "ok" if result is True or result is None else str(result)


def session(rows):
    """The answers to the lines of a string, one line for each."""
    live = None
    answers = []
    for line in rows.split("\n"):
        word, numbers = read_line(line)
        if word == "size":
            try:
                live = LiveTalk(numbers[0])
                answers.append("ok")
            except InvalidSize:
                answers.append("InvalidSize")
        elif live is None or word == UNKNOWN:
            answers.append(UNKNOWN)
        else:
            answers.append(answer_of(live, word, numbers))
    return "\n".join(answers)
